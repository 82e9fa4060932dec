/-
  WALKS: the reference's norms; which elements are integral; the reference's check of an algebra and one element.
-/
import Derived.Test.YtjloanplhbbomaaDoorAlU
namespace Go.Proofs.YtjloanplhbbomaaDoor.Al
open Go.RowKit
open Alm
set_option linter.unusedVariables false
set_option linter.unusedSimpArgs false
set_option maxRecDepth 100000
/-- what a walk keeps: cells, and that nothing that was there has turned -/
def K_Nd (A B n0 n1 n2 n3 d : Int) (b1 b2 : Nat) (w w' : World) : Prop := KL w [(b1, 0, .int .i64 A), (b1, 1, .int .i64 B), (b2, 0, .int .i64 n0), (b2, 1, .int .i64 n1), (b2, 2, .int .i64 n2), (b2, 3, .int .i64 n3), (b2, 4, .int .i64 d)] [] w'
theorem K_Nd.below {A B n0 n1 n2 n3 d : Int} {b1 b2 : Nat} {w w1 w2 : World} (hb : Below w1.heap.size w1 w2) (h : K_Nd A B n0 n1 n2 n3 d b1 b2 w w1) : K_Nd A B n0 n1 n2 n3 d b1 b2 w w2 := KL.below hb h
theorem K_Nd.draws {A B n0 n1 n2 n3 d : Int} {b1 b2 : Nat} {w w1 : World} (n : Nat) (h : K_Nd A B n0 n1 n2 n3 d b1 b2 w w1) : K_Nd A B n0 n1 n2 n3 d b1 b2 w (w1.drewN n) := KL.draws n h
theorem K_Nd.drew {A B n0 n1 n2 n3 d : Int} {b1 b2 : Nat} {w w1 : World} (h : K_Nd A B n0 n1 n2 n3 d b1 b2 w w1) : K_Nd A B n0 n1 n2 n3 d b1 b2 w w1.drew := KL.draws 1 h
theorem K_Nd.alloc {A B n0 n1 n2 n3 d : Int} {b1 b2 : Nat} {w w1 : World} (o : Obj) (h : K_Nd A B n0 n1 n2 n3 d b1 b2 w w1) : K_Nd A B n0 n1 n2 n3 d b1 b2 w (w1.alloc o) := KL.alloc o h
theorem K_Nd.set {A B n0 n1 n2 n3 d : Int} {b1 b2 : Nat} {w w1 : World} (h : K_Nd A B n0 n1 n2 n3 d b1 b2 w w1) (b i : Nat) (v : Value) (hb : b ≠ b1 ∧ b ≠ b2 ∧ w.heap.size ≤ b) : K_Nd A B n0 n1 n2 n3 d b1 b2 w (w1.setCell ⟨b, i, none⟩ v) :=
  KL.set h b i v (by intro x hx; simp only [List.mem_cons, List.not_mem_nil, or_false] at hx; rcases hx with rfl | rfl | rfl | rfl | rfl | rfl | rfl <;> simp only [] <;> omega) (by omega)
theorem K_Nd.bel {A B n0 n1 n2 n3 d : Int} {b1 b2 : Nat} {w w1 : World} (h : K_Nd A B n0 n1 n2 n3 d b1 b2 w w1) : Below w.heap.size w w1 := KL.bel h
theorem K_Nd.cells {A B n0 n1 n2 n3 d : Int} {b1 b2 : Nat} {w w' : World} (h : K_Nd A B n0 n1 n2 n3 d b1 b2 w w') : w'.cell? ⟨b1, 0, none⟩ = some (.int .i64 A) ∧ w'.cell? ⟨b1, 1, none⟩ = some (.int .i64 B) ∧ w'.cell? ⟨b2, 0, none⟩ = some (.int .i64 n0) ∧ w'.cell? ⟨b2, 1, none⟩ = some (.int .i64 n1) ∧ w'.cell? ⟨b2, 2, none⟩ = some (.int .i64 n2) ∧ w'.cell? ⟨b2, 3, none⟩ = some (.int .i64 n3) ∧ w'.cell? ⟨b2, 4, none⟩ = some (.int .i64 d) := ⟨h.c (b1, 0, .int .i64 A) (by simp), h.c (b1, 1, .int .i64 B) (by simp), h.c (b2, 0, .int .i64 n0) (by simp), h.c (b2, 1, .int .i64 n1) (by simp), h.c (b2, 2, .int .i64 n2) (by simp), h.c (b2, 3, .int .i64 n3) (by simp), h.c (b2, 4, .int .i64 d) (by simp)⟩
theorem K_Nd.zs {A B n0 n1 n2 n3 d : Int} {b1 b2 : Nat} {w w' : World} (h : K_Nd A B n0 n1 n2 n3 d b1 b2 w w') : b1 < w'.heap.size ∧ b2 < w'.heap.size ∧ True := ⟨KL.z h (x := (b1, 0, .int .i64 A)) (by simp), KL.z h (x := (b2, 0, .int .i64 n0)) (by simp), trivial⟩
theorem K_Nd.ks {A B n0 n1 n2 n3 d : Int} {b1 b2 : Nat} {w w' : World} (h : K_Nd A B n0 n1 n2 n3 d b1 b2 w w') : (w'.cell? ⟨b1, 0, none⟩ = some (.int .i64 A) ∧ w'.cell? ⟨b1, 1, none⟩ = some (.int .i64 B) ∧ w'.cell? ⟨b2, 0, none⟩ = some (.int .i64 n0) ∧ w'.cell? ⟨b2, 1, none⟩ = some (.int .i64 n1) ∧ w'.cell? ⟨b2, 2, none⟩ = some (.int .i64 n2) ∧ w'.cell? ⟨b2, 3, none⟩ = some (.int .i64 n3) ∧ w'.cell? ⟨b2, 4, none⟩ = some (.int .i64 d)) ∧ K_Nd A B n0 n1 n2 n3 d b1 b2 w w' := ⟨h.cells, h⟩
/-- what a walk keeps: cells, and that nothing that was there has turned -/
def K_T1 (n0 n1 n2 n3 d : Int) (bq : Nat) (w w' : World) : Prop := KL w [(bq, 0, .int .i64 n0), (bq, 1, .int .i64 n1), (bq, 2, .int .i64 n2), (bq, 3, .int .i64 n3), (bq, 4, .int .i64 d)] [] w'
theorem K_T1.below {n0 n1 n2 n3 d : Int} {bq : Nat} {w w1 w2 : World} (hb : Below w1.heap.size w1 w2) (h : K_T1 n0 n1 n2 n3 d bq w w1) : K_T1 n0 n1 n2 n3 d bq w w2 := KL.below hb h
theorem K_T1.draws {n0 n1 n2 n3 d : Int} {bq : Nat} {w w1 : World} (n : Nat) (h : K_T1 n0 n1 n2 n3 d bq w w1) : K_T1 n0 n1 n2 n3 d bq w (w1.drewN n) := KL.draws n h
theorem K_T1.drew {n0 n1 n2 n3 d : Int} {bq : Nat} {w w1 : World} (h : K_T1 n0 n1 n2 n3 d bq w w1) : K_T1 n0 n1 n2 n3 d bq w w1.drew := KL.draws 1 h
theorem K_T1.alloc {n0 n1 n2 n3 d : Int} {bq : Nat} {w w1 : World} (o : Obj) (h : K_T1 n0 n1 n2 n3 d bq w w1) : K_T1 n0 n1 n2 n3 d bq w (w1.alloc o) := KL.alloc o h
theorem K_T1.set {n0 n1 n2 n3 d : Int} {bq : Nat} {w w1 : World} (h : K_T1 n0 n1 n2 n3 d bq w w1) (b i : Nat) (v : Value) (hb : b ≠ bq ∧ w.heap.size ≤ b) : K_T1 n0 n1 n2 n3 d bq w (w1.setCell ⟨b, i, none⟩ v) :=
  KL.set h b i v (by intro x hx; simp only [List.mem_cons, List.not_mem_nil, or_false] at hx; rcases hx with rfl | rfl | rfl | rfl | rfl <;> simp only [] <;> omega) (by omega)
theorem K_T1.bel {n0 n1 n2 n3 d : Int} {bq : Nat} {w w1 : World} (h : K_T1 n0 n1 n2 n3 d bq w w1) : Below w.heap.size w w1 := KL.bel h
theorem K_T1.cells {n0 n1 n2 n3 d : Int} {bq : Nat} {w w' : World} (h : K_T1 n0 n1 n2 n3 d bq w w') : w'.cell? ⟨bq, 0, none⟩ = some (.int .i64 n0) ∧ w'.cell? ⟨bq, 1, none⟩ = some (.int .i64 n1) ∧ w'.cell? ⟨bq, 2, none⟩ = some (.int .i64 n2) ∧ w'.cell? ⟨bq, 3, none⟩ = some (.int .i64 n3) ∧ w'.cell? ⟨bq, 4, none⟩ = some (.int .i64 d) := ⟨h.c (bq, 0, .int .i64 n0) (by simp), h.c (bq, 1, .int .i64 n1) (by simp), h.c (bq, 2, .int .i64 n2) (by simp), h.c (bq, 3, .int .i64 n3) (by simp), h.c (bq, 4, .int .i64 d) (by simp)⟩
theorem K_T1.zs {n0 n1 n2 n3 d : Int} {bq : Nat} {w w' : World} (h : K_T1 n0 n1 n2 n3 d bq w w') : bq < w'.heap.size ∧ True := ⟨KL.z h (x := (bq, 0, .int .i64 n0)) (by simp), trivial⟩
theorem K_T1.ks {n0 n1 n2 n3 d : Int} {bq : Nat} {w w' : World} (h : K_T1 n0 n1 n2 n3 d bq w w') : (w'.cell? ⟨bq, 0, none⟩ = some (.int .i64 n0) ∧ w'.cell? ⟨bq, 1, none⟩ = some (.int .i64 n1) ∧ w'.cell? ⟨bq, 2, none⟩ = some (.int .i64 n2) ∧ w'.cell? ⟨bq, 3, none⟩ = some (.int .i64 n3) ∧ w'.cell? ⟨bq, 4, none⟩ = some (.int .i64 d)) ∧ K_T1 n0 n1 n2 n3 d bq w w' := ⟨h.cells, h⟩
set_option maxHeartbeats 1600000 in
theorem number_v (A B n0 n1 n2 n3 d : Int) (w : World) (hA : Bn 1000 A) (hB : Bn 1000 B) (h0 : Bn 1000000 n0) (h1 : Bn 1000000 n1) (h2 : Bn 1000000 n2) (h3 : Bn 1000000 n3) :
    Calls Tryd.prog 70 #[.agg #[.int .i64 A, .int .i64 B], .agg #[.int .i64 n0, .int .i64 n1, .int .i64 n2, .int .i64 n3, .int .i64 d]] w fun e w' => e = .returned (.int .i64 (nm A B n0 n1 n2 n3)) ∧ Below w.heap.size w w' := by
  obtain ⟨a1, a1'⟩ := Bn.mul 1000000000000 h0 h0 rfl
  have t1 := Bn.mul 1000000000 hA h1 rfl
  obtain ⟨a2, a2'⟩ := id t1
  obtain ⟨a3, a3'⟩ := Bn.mul 1000000000000000 t1 h1 rfl
  have t2 := Bn.mul 1000000000 hB h2 rfl
  obtain ⟨a4, a4'⟩ := id t2
  obtain ⟨a5, a5'⟩ := Bn.mul 1000000000000000 t2 h2 rfl
  have t3 := Bn.mul 1000000 hA hB rfl
  obtain ⟨a6, a6'⟩ := id t3
  have t4 := Bn.mul 1000000000000 t3 h3 rfl
  obtain ⟨a7, a7'⟩ := id t4
  obtain ⟨a8, a8'⟩ := Bn.mul 1000000000000000000 t4 h3 rfl
  clear t1 t2 t3 t4 hA hB h0 h1 h2 h3
  go_enter Tryd.func70, Tryd.ntmps70
  go_wp2
  go_ret
  exact ⟨rfl, by (repeat (first | (with_reducible exact Below.refl _ _) | (with_reducible exact HB.out) | (with_reducible refine below_draws ?_ _) | (with_reducible refine Below.alloc ?_ (by go_size) _) | (with_reducible refine Below.setCell ?_ (by go_size) _) | (with_reducible refine Below.alloc ?_ (by simp <;> omega) _) | (with_reducible refine Below.setCell ?_ (by simp <;> omega) _)))⟩
set_option maxHeartbeats 1600000 in
theorem rNorm_v (A B n0 n1 n2 n3 d : Int) (w : World) (hA : chkA A B = 0) (hq : chkQ n0 n1 n2 n3 d = 0) :
    Calls Tryd.prog 36 #[.agg #[.int .i64 A, .int .i64 B], .agg #[.int .i64 n0, .int .i64 n1, .int .i64 n2, .int .i64 n3, .int .i64 d]] w fun e w' => e = .returned (.agg #[.int .i64 (fn (nm A B n0 n1 n2 n3) (d * d)), .int .i64 (fd (nm A B n0 n1 n2 n3) (d * d))]) ∧ Below w.heap.size w w' := by
  obtain ⟨a0, a1, a2, a3, a4, a5⟩ := qin_of hq
  have NN := Lib.hid (fun W => number_v A B n0 n1 n2 n3 d W (Bn_A hA).1 (Bn_A hA).2 a0 a1 a2 a3)
  have nb := nm_bd (Bn_A hA).1 (Bn_A hA).2 a0 a1 a2 a3
  have dd := Bn.mul (m := 1000000) (n := 1000000) (a := d) (b := d) 1000000000000 ⟨by omega, by omega⟩ ⟨by omega, by omega⟩ rfl
  have dp : 0 < d * d := Int.mul_pos (by omega) (by omega)
  have FR := Lib.hid (fun W => Lowest_any (nm A B n0 n1 n2 n3) (d * d) W ⟨by omega, by omega⟩ ⟨dp, by omega⟩)
  have EF := Lib.hid (IntWalk.i64_in (d * d) (by omega))
  obtain ⟨k0, hk0⟩ : ∃ k, fn (nm A B n0 n1 n2 n3) (d * d) = k := ⟨_, rfl⟩
  obtain ⟨k1, hk1⟩ : ∃ k, fd (nm A B n0 n1 n2 n3) (d * d) = k := ⟨_, rfl⟩
  rw [hk0, hk1] at FR ⊢
  obtain ⟨dl, du⟩ := dd
  clear hA hq a0 a1 a2 a3 a4 a5 nb hk0 hk1
  go_enter Tryd.func36, Tryd.ntmps36
  go_wp2_with fail
  have hk : K_Nc A B n0 n1 n2 n3 d w.heap.size (w.heap.size + 1) (w.heap.size + 2) w (((w.alloc (.cells #[.int .i64 A, .int .i64 B] 23)).alloc (.cells #[.int .i64 n0, .int .i64 n1, .int .i64 n2, .int .i64 n3, .int .i64 d] 25)).alloc (.cells #[.int .i64 0, .int .i64 0] 38)) := ⟨by simp [go_sem], by simp [go_sem], by simp [go_sem], by (repeat (first | (with_reducible exact Below.refl _ _) | (with_reducible exact HB.out) | (with_reducible refine below_draws ?_ _) | (with_reducible refine Below.alloc ?_ (by go_size) _) | (with_reducible refine Below.setCell ?_ (by go_size) _) | (with_reducible refine Below.alloc ?_ (by simp <;> omega) _) | (with_reducible refine Below.setCell ?_ (by simp <;> omega) _)))⟩
  have ef := EF.out
  go_region_held3 (fun w' => (w'.cell? ⟨w.heap.size, 0, none⟩ = some (.int .i64 A) ∧ w'.cell? ⟨w.heap.size, 1, none⟩ = some (.int .i64 B) ∧ w'.cell? ⟨(w.heap.size + 1), 0, none⟩ = some (.int .i64 n0) ∧ w'.cell? ⟨(w.heap.size + 1), 1, none⟩ = some (.int .i64 n1) ∧ w'.cell? ⟨(w.heap.size + 1), 2, none⟩ = some (.int .i64 n2) ∧ w'.cell? ⟨(w.heap.size + 1), 3, none⟩ = some (.int .i64 n3) ∧ w'.cell? ⟨(w.heap.size + 1), 4, none⟩ = some (.int .i64 d) ∧ w'.cell? ⟨(w.heap.size + 2), 0, none⟩ = some (cv w' ((w.heap.size + 2)) 0) ∧ w'.frozen? ⟨(w.heap.size + 2), 0, none⟩ = false ∧ w'.cell? ⟨(w.heap.size + 2), 1, none⟩ = some (cv w' ((w.heap.size + 2)) 1) ∧ w'.frozen? ⟨(w.heap.size + 2), 1, none⟩ = false) ∧ K_Nc A B n0 n1 n2 n3 d w.heap.size (w.heap.size + 1) (w.heap.size + 2) w w') ((refine K_Nc.ks ?_; repeat (first | (with_reducible assumption) | (with_reducible refine K_Nc.draws _ ?_) | (with_reducible refine K_Nc.drew ?_) | (with_reducible refine K_Nc.alloc _ ?_) | (with_reducible refine K_Nc.set ?_ _ _ _ (by omega)))))
    (first
      | (go_at_call 70; (with_reducible refine (NN.out _).mono ?_); rintro e w' ⟨rfl, hbel⟩; have hk' := K_Nc.below hbel (And.right (by assumption)); clear hbel)
      | (go_at_call 49; (with_reducible refine (FR.out _).mono ?_); rintro e w' ⟨rfl, hbel⟩; have hk' := K_Nc.below hbel (And.right (by assumption)); clear hbel))
  all_goals
    clear ef
    go_wp2
    (rename_i hh_; clear hh_; obtain ⟨c0_, c1_, c2_, c3_, c4_, c5_, c6_, d0_, f0_, d1_, f1_⟩ := K_Nc.cells hk'; have HB := Lib.hid (K_Nc.bel hk'))
    exact bodyPost_ret (v := .agg #[.int .i64 k0, .int .i64 k1]) (by simp [results, Tryd.results36, go_sem, c0_, c1_, c2_, c3_, c4_, c5_, c6_, d0_, f0_, d1_, f1_]) rfl ⟨rfl, by (repeat (first | (with_reducible exact Below.refl _ _) | (with_reducible exact HB.out) | (with_reducible refine below_draws ?_ _) | (with_reducible refine Below.alloc ?_ (by go_size) _) | (with_reducible refine Below.setCell ?_ (by go_size) _) | (with_reducible refine Below.alloc ?_ (by simp <;> omega) _) | (with_reducible refine Below.setCell ?_ (by simp <;> omega) _)))⟩
set_option maxHeartbeats 1600000 in
theorem Norm_err (A B n0 n1 n2 n3 d : Int) (w : World) (h : or2 (chkA A B) (chkQ n0 n1 n2 n3 d) ≠ 0) :
    Calls Tryd.prog 33 #[.agg #[.int .i64 A, .int .i64 B], .agg #[.int .i64 n0, .int .i64 n1, .int .i64 n2, .int .i64 n3, .int .i64 d]] w fun e w' => e = .returned (.tuple #[.agg #[.int .i64 0, .int .i64 0], .int .i64 (or2 (chkA A B) (chkQ n0 n1 n2 n3 d))]) ∧ Below w.heap.size w w' := by
  have ok : (or2 (chkA A B) (chkQ n0 n1 n2 n3 d) != 0) = true := by rw [bne_iff_ne]; exact h
  clear h
  go_enter Tryd.func33, Tryd.ntmps33
  go_wp2_with fail
  have hk : K_Nc A B n0 n1 n2 n3 d w.heap.size (w.heap.size + 1) (w.heap.size + 2) w (((w.alloc (.cells #[.int .i64 A, .int .i64 B] 23)).alloc (.cells #[.int .i64 n0, .int .i64 n1, .int .i64 n2, .int .i64 n3, .int .i64 d] 25)).alloc (.cells #[.int .i64 0, .int .i64 0] 38)) := ⟨by simp [go_sem], by simp [go_sem], by simp [go_sem], by (repeat (first | (with_reducible exact Below.refl _ _) | (with_reducible exact HB.out) | (with_reducible refine below_draws ?_ _) | (with_reducible refine Below.alloc ?_ (by go_size) _) | (with_reducible refine Below.setCell ?_ (by go_size) _) | (with_reducible refine Below.alloc ?_ (by simp <;> omega) _) | (with_reducible refine Below.setCell ?_ (by simp <;> omega) _)))⟩
  go_region_held3 (fun w' => (w'.cell? ⟨w.heap.size, 0, none⟩ = some (.int .i64 A) ∧ w'.cell? ⟨w.heap.size, 1, none⟩ = some (.int .i64 B) ∧ w'.cell? ⟨(w.heap.size + 1), 0, none⟩ = some (.int .i64 n0) ∧ w'.cell? ⟨(w.heap.size + 1), 1, none⟩ = some (.int .i64 n1) ∧ w'.cell? ⟨(w.heap.size + 1), 2, none⟩ = some (.int .i64 n2) ∧ w'.cell? ⟨(w.heap.size + 1), 3, none⟩ = some (.int .i64 n3) ∧ w'.cell? ⟨(w.heap.size + 1), 4, none⟩ = some (.int .i64 d) ∧ w'.cell? ⟨(w.heap.size + 2), 0, none⟩ = some (cv w' ((w.heap.size + 2)) 0) ∧ w'.frozen? ⟨(w.heap.size + 2), 0, none⟩ = false ∧ w'.cell? ⟨(w.heap.size + 2), 1, none⟩ = some (cv w' ((w.heap.size + 2)) 1) ∧ w'.frozen? ⟨(w.heap.size + 2), 1, none⟩ = false) ∧ K_Nc A B n0 n1 n2 n3 d w.heap.size (w.heap.size + 1) (w.heap.size + 2) w w') ((refine K_Nc.ks ?_; repeat (first | (with_reducible assumption) | (with_reducible refine K_Nc.draws _ ?_) | (with_reducible refine K_Nc.drew ?_) | (with_reducible refine K_Nc.alloc _ ?_) | (with_reducible refine K_Nc.set ?_ _ _ _ (by omega)))))
    (first
      | (go_at_call 15; (with_reducible refine (Check_any _ _ _).mono ?_); rintro e w' ⟨rfl, hbel⟩; have hk' := K_Nc.below hbel (And.right (by assumption)); clear hbel)
      | (go_at_call 17; (with_reducible refine (CheckQuat_any _ _ _ _ _ _).mono ?_); rintro e w' ⟨rfl, hbel⟩; have hk' := K_Nc.below hbel (And.right (by assumption)); clear hbel)
      | (go_at_call 64; (with_reducible refine (Or_new _ _ _ _ _ ?_).mono ?_); rfl; rintro e w'' ⟨rfl, rfl⟩))
  all_goals
    (rename_i hh_; clear hh_; obtain ⟨c0_, c1_, c2_, c3_, c4_, c5_, c6_, d0_, f0_, d1_, f1_⟩ := K_Nc.cells hk'; have HB := Lib.hid (K_Nc.bel hk'))
    have z1 : w.heap.size + 2 < w'.heap.size := World.block_lt_of_cell? w' ⟨w.heap.size + 2, 0, none⟩ d0_
    have y0 : w.heap.size < w'.heap.size := by omega
    have y1 : w.heap.size + 1 < w'.heap.size := by omega
    go_wp2
    exact bodyPost_ret (v := .tuple #[.agg #[.int .i64 0, .int .i64 0], .int .i64 (or2 (chkA A B) (chkQ n0 n1 n2 n3 d))]) (by simp [results, Tryd.results33, go_sem, c0_, c1_, c2_, c3_, c4_, c5_, c6_, d0_, f0_, d1_, f1_, z1]) rfl ⟨rfl, by (repeat (first | (with_reducible exact Below.refl _ _) | (with_reducible exact HB.out) | (with_reducible refine below_draws ?_ _) | (with_reducible refine Below.alloc ?_ (by go_size) _) | (with_reducible refine Below.setCell ?_ (by go_size) _) | (with_reducible refine Below.alloc ?_ (by simp <;> omega) _) | (with_reducible refine Below.setCell ?_ (by simp <;> omega) _)))⟩
set_option maxHeartbeats 1600000 in
theorem rCheckAll_one (A B n0 n1 n2 n3 d : Int) (b c : Nat) (w : World) (h : K_T1 n0 n1 n2 n3 d b w w) (hc : 1 ≤ c) (hc' : c ≤ 9223372036854775807) :
    Calls Tryd.prog 29 #[.agg #[.int .i64 A, .int .i64 B], .slice (some ⟨b, 0, none⟩) 1 c] w fun e w' => e = .returned (.int .i64 (or2 (chkA A B) (chkQ n0 n1 n2 n3 d))) ∧ Below w.heap.size w w' := by
  have hK := h
  have hbs : b < w.heap.size := h.zs.1
  clear h
  by_cases hA : chkA A B = 0
  · rw [hA, or2_z]
    have HA := Lib.hid hA
    clear hA
    by_cases hp : chkQ n0 n1 n2 n3 d = 0
    · rw [hp]
      have HP := Lib.hid hp
      clear hp
      have HK0 := Lib.hid hK
      clear hK
      go_enter Tryd.func29, Tryd.ntmps29
      go_wp2_with fail
      refine (rCheck_any _ _ _).mono ?_
      rintro e w1 ⟨rfl, hb⟩
      rw [HA.out]
      have hK := K_T1.below hb (K_T1.alloc _ HK0.out)
      clear hb HK0
      obtain ⟨c0_, c1_, c2_, c3_, c4_⟩ := K_T1.cells hK; obtain ⟨z0_, -⟩ := K_T1.zs hK; have HK := Lib.hid hK; clear hK
      go_wp2
      refine wp_loop_rounds 2 ?_
      rw [rounds_succ]
      go_wp2_with fail
      refine (rCheckQuat_any _ _ _ _ _ _).mono ?_
      rintro e w2 ⟨rfl, hb⟩
      rw [HP.out]
      clear c0_ c1_ c2_ c3_ c4_ z0_
      have hK := K_T1.below hb HK.out
      clear hb HK
      obtain ⟨c0_, c1_, c2_, c3_, c4_⟩ := K_T1.cells hK; obtain ⟨z0_, -⟩ := K_T1.zs hK; have HK := Lib.hid hK; clear hK
      go_wp2
      rw [rounds_succ]
      go_wp2
      go_ret
      exact ⟨rfl, K_T1.bel HK.out⟩
    · have ht : (chkQ n0 n1 n2 n3 d != 0) = true := by rw [bne_iff_ne]; exact hp
      clear hp
      have HK0 := Lib.hid hK
      clear hK
      go_enter Tryd.func29, Tryd.ntmps29
      go_wp2_with fail
      refine (rCheck_any _ _ _).mono ?_
      rintro e w1 ⟨rfl, hb⟩
      rw [HA.out]
      have hK := K_T1.below hb (K_T1.alloc _ HK0.out)
      clear hb HK0
      obtain ⟨c0_, c1_, c2_, c3_, c4_⟩ := K_T1.cells hK; obtain ⟨z0_, -⟩ := K_T1.zs hK; have HK := Lib.hid hK; clear hK
      go_wp2
      refine wp_loop_rounds 1 ?_
      rw [rounds_succ]
      go_wp2_with fail
      refine (rCheckQuat_any _ _ _ _ _ _).mono ?_
      rintro e w2 ⟨rfl, hb⟩
      clear c0_ c1_ c2_ c3_ c4_ z0_
      have hK := K_T1.below hb HK.out
      clear hb HK
      obtain ⟨c0_, c1_, c2_, c3_, c4_⟩ := K_T1.cells hK; obtain ⟨z0_, -⟩ := K_T1.zs hK; have HK := Lib.hid hK; clear hK
      go_wp2
      go_ret
      exact ⟨rfl, K_T1.bel HK.out⟩
  · rw [or2_ne hA]
    have ht : (chkA A B != 0) = true := by rw [bne_iff_ne]; exact hA
    clear hA
    have HK0 := Lib.hid hK
    clear hK
    go_enter Tryd.func29, Tryd.ntmps29
    go_wp2_with fail
    refine (rCheck_any _ _ _).mono ?_
    rintro e w1 ⟨rfl, hb⟩
    have hK := K_T1.below hb (K_T1.alloc _ HK0.out)
    clear hb HK0
    obtain ⟨c0_, c1_, c2_, c3_, c4_⟩ := K_T1.cells hK; obtain ⟨z0_, -⟩ := K_T1.zs hK; have HK := Lib.hid hK; clear hK
    go_wp2
    go_ret
    exact ⟨rfl, K_T1.bel HK.out⟩
end Go.Proofs.YtjloanplhbbomaaDoor.Al
