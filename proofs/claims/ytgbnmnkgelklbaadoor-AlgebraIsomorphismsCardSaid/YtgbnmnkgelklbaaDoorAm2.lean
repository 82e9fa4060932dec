/-
  WALKS: squares and products with other signs, the reference's side.
-/
import Derived.Test.YtgbnmnkgelklbaaDoorAlO
namespace Go.Proofs.YtgbnmnkgelklbaaDoor.Al
open Go.RowKit
open Alm
set_option linter.unusedVariables false
set_option linter.unusedSimpArgs false
set_option maxRecDepth 100000
/-- what a walk keeps: cells, and that nothing that was there has turned -/
def K_O4 (A B n0 n1 n2 n3 d r0 r1 r2 r3 r4 : Int) (b1 b2 b3 : Nat) (w w' : World) : Prop := KL w [(b3, 0, .int .i64 r0), (b3, 1, .int .i64 r1), (b3, 2, .int .i64 r2), (b3, 3, .int .i64 r3), (b3, 4, .int .i64 r4), (b1, 0, .int .i64 A), (b1, 1, .int .i64 B), (b2, 0, .int .i64 n0), (b2, 1, .int .i64 n1), (b2, 2, .int .i64 n2), (b2, 3, .int .i64 n3), (b2, 4, .int .i64 d)] [] w'
theorem K_O4.below {A B n0 n1 n2 n3 d r0 r1 r2 r3 r4 : Int} {b1 b2 b3 : Nat} {w w1 w2 : World} (hb : Below w1.heap.size w1 w2) (h : K_O4 A B n0 n1 n2 n3 d r0 r1 r2 r3 r4 b1 b2 b3 w w1) : K_O4 A B n0 n1 n2 n3 d r0 r1 r2 r3 r4 b1 b2 b3 w w2 := KL.below hb h
theorem K_O4.draws {A B n0 n1 n2 n3 d r0 r1 r2 r3 r4 : Int} {b1 b2 b3 : Nat} {w w1 : World} (n : Nat) (h : K_O4 A B n0 n1 n2 n3 d r0 r1 r2 r3 r4 b1 b2 b3 w w1) : K_O4 A B n0 n1 n2 n3 d r0 r1 r2 r3 r4 b1 b2 b3 w (w1.drewN n) := KL.draws n h
theorem K_O4.drew {A B n0 n1 n2 n3 d r0 r1 r2 r3 r4 : Int} {b1 b2 b3 : Nat} {w w1 : World} (h : K_O4 A B n0 n1 n2 n3 d r0 r1 r2 r3 r4 b1 b2 b3 w w1) : K_O4 A B n0 n1 n2 n3 d r0 r1 r2 r3 r4 b1 b2 b3 w w1.drew := KL.draws 1 h
theorem K_O4.alloc {A B n0 n1 n2 n3 d r0 r1 r2 r3 r4 : Int} {b1 b2 b3 : Nat} {w w1 : World} (o : Obj) (h : K_O4 A B n0 n1 n2 n3 d r0 r1 r2 r3 r4 b1 b2 b3 w w1) : K_O4 A B n0 n1 n2 n3 d r0 r1 r2 r3 r4 b1 b2 b3 w (w1.alloc o) := KL.alloc o h
theorem K_O4.set {A B n0 n1 n2 n3 d r0 r1 r2 r3 r4 : Int} {b1 b2 b3 : Nat} {w w1 : World} (h : K_O4 A B n0 n1 n2 n3 d r0 r1 r2 r3 r4 b1 b2 b3 w w1) (b i : Nat) (v : Value) (hb : b ≠ b3 ∧ b ≠ b1 ∧ b ≠ b2 ∧ w.heap.size ≤ b) : K_O4 A B n0 n1 n2 n3 d r0 r1 r2 r3 r4 b1 b2 b3 w (w1.setCell ⟨b, i, none⟩ v) :=
  KL.set h b i v (by intro x hx; simp only [List.mem_cons, List.not_mem_nil, or_false] at hx; rcases hx with rfl | rfl | rfl | rfl | rfl | rfl | rfl | rfl | rfl | rfl | rfl | rfl <;> simp only [] <;> omega) (by omega)
theorem K_O4.bel {A B n0 n1 n2 n3 d r0 r1 r2 r3 r4 : Int} {b1 b2 b3 : Nat} {w w1 : World} (h : K_O4 A B n0 n1 n2 n3 d r0 r1 r2 r3 r4 b1 b2 b3 w w1) : Below w.heap.size w w1 := KL.bel h
theorem K_O4.cells {A B n0 n1 n2 n3 d r0 r1 r2 r3 r4 : Int} {b1 b2 b3 : Nat} {w w' : World} (h : K_O4 A B n0 n1 n2 n3 d r0 r1 r2 r3 r4 b1 b2 b3 w w') : w'.cell? ⟨b3, 0, none⟩ = some (.int .i64 r0) ∧ w'.cell? ⟨b3, 1, none⟩ = some (.int .i64 r1) ∧ w'.cell? ⟨b3, 2, none⟩ = some (.int .i64 r2) ∧ w'.cell? ⟨b3, 3, none⟩ = some (.int .i64 r3) ∧ w'.cell? ⟨b3, 4, none⟩ = some (.int .i64 r4) ∧ w'.cell? ⟨b1, 0, none⟩ = some (.int .i64 A) ∧ w'.cell? ⟨b1, 1, none⟩ = some (.int .i64 B) ∧ w'.cell? ⟨b2, 0, none⟩ = some (.int .i64 n0) ∧ w'.cell? ⟨b2, 1, none⟩ = some (.int .i64 n1) ∧ w'.cell? ⟨b2, 2, none⟩ = some (.int .i64 n2) ∧ w'.cell? ⟨b2, 3, none⟩ = some (.int .i64 n3) ∧ w'.cell? ⟨b2, 4, none⟩ = some (.int .i64 d) := ⟨h.c (b3, 0, .int .i64 r0) (by simp), h.c (b3, 1, .int .i64 r1) (by simp), h.c (b3, 2, .int .i64 r2) (by simp), h.c (b3, 3, .int .i64 r3) (by simp), h.c (b3, 4, .int .i64 r4) (by simp), h.c (b1, 0, .int .i64 A) (by simp), h.c (b1, 1, .int .i64 B) (by simp), h.c (b2, 0, .int .i64 n0) (by simp), h.c (b2, 1, .int .i64 n1) (by simp), h.c (b2, 2, .int .i64 n2) (by simp), h.c (b2, 3, .int .i64 n3) (by simp), h.c (b2, 4, .int .i64 d) (by simp)⟩
theorem K_O4.zs {A B n0 n1 n2 n3 d r0 r1 r2 r3 r4 : Int} {b1 b2 b3 : Nat} {w w' : World} (h : K_O4 A B n0 n1 n2 n3 d r0 r1 r2 r3 r4 b1 b2 b3 w w') : b3 < w'.heap.size ∧ b1 < w'.heap.size ∧ b2 < w'.heap.size ∧ True := ⟨KL.z h (x := (b3, 0, .int .i64 r0)) (by simp), KL.z h (x := (b1, 0, .int .i64 A)) (by simp), KL.z h (x := (b2, 0, .int .i64 n0)) (by simp), trivial⟩
theorem K_O4.ks {A B n0 n1 n2 n3 d r0 r1 r2 r3 r4 : Int} {b1 b2 b3 : Nat} {w w' : World} (h : K_O4 A B n0 n1 n2 n3 d r0 r1 r2 r3 r4 b1 b2 b3 w w') : (w'.cell? ⟨b3, 0, none⟩ = some (.int .i64 r0) ∧ w'.cell? ⟨b3, 1, none⟩ = some (.int .i64 r1) ∧ w'.cell? ⟨b3, 2, none⟩ = some (.int .i64 r2) ∧ w'.cell? ⟨b3, 3, none⟩ = some (.int .i64 r3) ∧ w'.cell? ⟨b3, 4, none⟩ = some (.int .i64 r4) ∧ w'.cell? ⟨b1, 0, none⟩ = some (.int .i64 A) ∧ w'.cell? ⟨b1, 1, none⟩ = some (.int .i64 B) ∧ w'.cell? ⟨b2, 0, none⟩ = some (.int .i64 n0) ∧ w'.cell? ⟨b2, 1, none⟩ = some (.int .i64 n1) ∧ w'.cell? ⟨b2, 2, none⟩ = some (.int .i64 n2) ∧ w'.cell? ⟨b2, 3, none⟩ = some (.int .i64 n3) ∧ w'.cell? ⟨b2, 4, none⟩ = some (.int .i64 d)) ∧ K_O4 A B n0 n1 n2 n3 d r0 r1 r2 r3 r4 b1 b2 b3 w w' := ⟨h.cells, h⟩
theorem sq_ways (A B : Int) (q : Q) (n : Int) : sqB A B q n = ((px B q.w q.x q.y q.z q.w q.x q.y q.z == 0) && ((py A q.w q.x q.y q.z q.w q.x q.y q.z == 0) && ((pz q.w q.x q.y q.z q.w q.x q.y q.z == 0) && (pw A B q.w q.x q.y q.z q.w q.x q.y q.z == n * (q.d * q.d))))) := by
  unfold sqB
  rw [Int.mul_assoc]
  rw [Bool.eq_iff_iff]
  simp only [Bool.and_eq_true]
  constructor <;> (intro h; simp only [h, and_self])
theorem four_ways (a b c d : Bool) : a = false ∨ a = true ∧ (b = false ∨ b = true ∧ (c = false ∨ c = true ∧ (d = false ∨ d = true))) := by
  cases a <;> cases b <;> cases c <;> cases d <;> simp
set_option maxHeartbeats 6400000 in
theorem Square_any (A B n0 n1 n2 n3 d k : Int) (w : World) (hA : Bn 1000 A) (hB : Bn 1000 B) (h : chkQ n0 n1 n2 n3 d = 0) (hk : Bn 1000 k) :
    Calls Tryd.prog 62 #[.agg #[.int .i64 A, .int .i64 B], .agg #[.int .i64 n0, .int .i64 n1, .int .i64 n2, .int .i64 n3, .int .i64 d], .int .i64 k] w fun e w' => e = .returned (.bool (sqB A B ⟨n0, n1, n2, n3, d⟩ k)) ∧ Below w.heap.size w w' := by
  obtain ⟨a0, a1, a2, a3, a4, a5⟩ := qin_of h
  have hd : Bn 1000000 d := ⟨by omega, by omega⟩
  have PR := Lib.hid (fun W => Product_any A B n0 n1 n2 n3 d n0 n1 n2 n3 d W hA hB a0 a1 a2 a3 hd a0 a1 a2 a3 hd)
  have q1 := Bn.mul 1000000000000 hd hd rfl
  obtain ⟨q2, q2'⟩ := Bn.mul 1000000000000000 hk q1 rfl
  rw [sq_ways]
  simp only []
  generalize pw A B n0 n1 n2 n3 n0 n1 n2 n3 = t0 at *
  generalize px B n0 n1 n2 n3 n0 n1 n2 n3 = t1 at *
  generalize py A n0 n1 n2 n3 n0 n1 n2 n3 = t2 at *
  generalize pz n0 n1 n2 n3 n0 n1 n2 n3 = t3 at *
  generalize d * d = dd at *
  clear h a0 a1 a2 a3 a4 a5 hA hB hd hk q1
  rcases four_ways (t1 == 0) (t2 == 0) (t3 == 0) (t0 == k * dd) with e1 | ⟨e1, e2 | ⟨e2, e3 | ⟨e3, e4 | e4⟩⟩⟩
  all_goals
    go_enter Tryd.func62, Tryd.ntmps62
    go_wp2_with fail
    refine (PR.out _).mono ?_
    rintro e w1 ⟨rfl, hb⟩
    have hK : K_Nd A B n0 n1 n2 n3 d w.heap.size (w.heap.size + 1) w w1 := K_Nd.below hb ⟨by simp [go_sem], by simp [go_sem], by simp [go_sem], by (repeat (first | (with_reducible exact Below.refl _ _) | (with_reducible exact HB.out) | (with_reducible refine below_draws ?_ _) | (with_reducible refine Below.alloc ?_ (by go_size) _) | (with_reducible refine Below.setCell ?_ (by go_size) _) | (with_reducible refine Below.alloc ?_ (by simp <;> omega) _) | (with_reducible refine Below.setCell ?_ (by simp <;> omega) _)))⟩
    clear hb
    obtain ⟨c0_, c1_, c2_, c3_, c4_, c5_, c6_⟩ := K_Nd.cells hK; obtain ⟨z0_, z1_, -⟩ := K_Nd.zs hK; have HK := Lib.hid hK; clear hK
    go_wp2
    go_ret
    exact ⟨by simp [*], K_Nd.bel (K_Nd.alloc _ HK.out)⟩
/-- what a walk keeps: cells, and that nothing that was there has turned -/
def K_O5 (A B n0 n1 n2 n3 d m0 m1 m2 m3 f r0 r1 r2 r3 r4 s0 s1 s2 s3 s4 : Int) (b1 b2 b3 b4 b5 : Nat) (w w' : World) : Prop := KL w [(b5, 0, .int .i64 s0), (b5, 1, .int .i64 s1), (b5, 2, .int .i64 s2), (b5, 3, .int .i64 s3), (b5, 4, .int .i64 s4), (b4, 0, .int .i64 r0), (b4, 1, .int .i64 r1), (b4, 2, .int .i64 r2), (b4, 3, .int .i64 r3), (b4, 4, .int .i64 r4), (b1, 0, .int .i64 A), (b1, 1, .int .i64 B), (b2, 0, .int .i64 n0), (b2, 1, .int .i64 n1), (b2, 2, .int .i64 n2), (b2, 3, .int .i64 n3), (b2, 4, .int .i64 d), (b3, 0, .int .i64 m0), (b3, 1, .int .i64 m1), (b3, 2, .int .i64 m2), (b3, 3, .int .i64 m3), (b3, 4, .int .i64 f)] [] w'
theorem K_O5.below {A B n0 n1 n2 n3 d m0 m1 m2 m3 f r0 r1 r2 r3 r4 s0 s1 s2 s3 s4 : Int} {b1 b2 b3 b4 b5 : Nat} {w w1 w2 : World} (hb : Below w1.heap.size w1 w2) (h : K_O5 A B n0 n1 n2 n3 d m0 m1 m2 m3 f r0 r1 r2 r3 r4 s0 s1 s2 s3 s4 b1 b2 b3 b4 b5 w w1) : K_O5 A B n0 n1 n2 n3 d m0 m1 m2 m3 f r0 r1 r2 r3 r4 s0 s1 s2 s3 s4 b1 b2 b3 b4 b5 w w2 := KL.below hb h
theorem K_O5.draws {A B n0 n1 n2 n3 d m0 m1 m2 m3 f r0 r1 r2 r3 r4 s0 s1 s2 s3 s4 : Int} {b1 b2 b3 b4 b5 : Nat} {w w1 : World} (n : Nat) (h : K_O5 A B n0 n1 n2 n3 d m0 m1 m2 m3 f r0 r1 r2 r3 r4 s0 s1 s2 s3 s4 b1 b2 b3 b4 b5 w w1) : K_O5 A B n0 n1 n2 n3 d m0 m1 m2 m3 f r0 r1 r2 r3 r4 s0 s1 s2 s3 s4 b1 b2 b3 b4 b5 w (w1.drewN n) := KL.draws n h
theorem K_O5.drew {A B n0 n1 n2 n3 d m0 m1 m2 m3 f r0 r1 r2 r3 r4 s0 s1 s2 s3 s4 : Int} {b1 b2 b3 b4 b5 : Nat} {w w1 : World} (h : K_O5 A B n0 n1 n2 n3 d m0 m1 m2 m3 f r0 r1 r2 r3 r4 s0 s1 s2 s3 s4 b1 b2 b3 b4 b5 w w1) : K_O5 A B n0 n1 n2 n3 d m0 m1 m2 m3 f r0 r1 r2 r3 r4 s0 s1 s2 s3 s4 b1 b2 b3 b4 b5 w w1.drew := KL.draws 1 h
theorem K_O5.alloc {A B n0 n1 n2 n3 d m0 m1 m2 m3 f r0 r1 r2 r3 r4 s0 s1 s2 s3 s4 : Int} {b1 b2 b3 b4 b5 : Nat} {w w1 : World} (o : Obj) (h : K_O5 A B n0 n1 n2 n3 d m0 m1 m2 m3 f r0 r1 r2 r3 r4 s0 s1 s2 s3 s4 b1 b2 b3 b4 b5 w w1) : K_O5 A B n0 n1 n2 n3 d m0 m1 m2 m3 f r0 r1 r2 r3 r4 s0 s1 s2 s3 s4 b1 b2 b3 b4 b5 w (w1.alloc o) := KL.alloc o h
theorem K_O5.set {A B n0 n1 n2 n3 d m0 m1 m2 m3 f r0 r1 r2 r3 r4 s0 s1 s2 s3 s4 : Int} {b1 b2 b3 b4 b5 : Nat} {w w1 : World} (h : K_O5 A B n0 n1 n2 n3 d m0 m1 m2 m3 f r0 r1 r2 r3 r4 s0 s1 s2 s3 s4 b1 b2 b3 b4 b5 w w1) (b i : Nat) (v : Value) (hb : b ≠ b5 ∧ b ≠ b4 ∧ b ≠ b1 ∧ b ≠ b2 ∧ b ≠ b3 ∧ w.heap.size ≤ b) : K_O5 A B n0 n1 n2 n3 d m0 m1 m2 m3 f r0 r1 r2 r3 r4 s0 s1 s2 s3 s4 b1 b2 b3 b4 b5 w (w1.setCell ⟨b, i, none⟩ v) :=
  KL.set h b i v (by intro x hx; simp only [List.mem_cons, List.not_mem_nil, or_false] at hx; rcases hx with rfl | rfl | rfl | rfl | rfl | rfl | rfl | rfl | rfl | rfl | rfl | rfl | rfl | rfl | rfl | rfl | rfl | rfl | rfl | rfl | rfl | rfl <;> simp only [] <;> omega) (by omega)
theorem K_O5.bel {A B n0 n1 n2 n3 d m0 m1 m2 m3 f r0 r1 r2 r3 r4 s0 s1 s2 s3 s4 : Int} {b1 b2 b3 b4 b5 : Nat} {w w1 : World} (h : K_O5 A B n0 n1 n2 n3 d m0 m1 m2 m3 f r0 r1 r2 r3 r4 s0 s1 s2 s3 s4 b1 b2 b3 b4 b5 w w1) : Below w.heap.size w w1 := KL.bel h
theorem K_O5.cells {A B n0 n1 n2 n3 d m0 m1 m2 m3 f r0 r1 r2 r3 r4 s0 s1 s2 s3 s4 : Int} {b1 b2 b3 b4 b5 : Nat} {w w' : World} (h : K_O5 A B n0 n1 n2 n3 d m0 m1 m2 m3 f r0 r1 r2 r3 r4 s0 s1 s2 s3 s4 b1 b2 b3 b4 b5 w w') : w'.cell? ⟨b5, 0, none⟩ = some (.int .i64 s0) ∧ w'.cell? ⟨b5, 1, none⟩ = some (.int .i64 s1) ∧ w'.cell? ⟨b5, 2, none⟩ = some (.int .i64 s2) ∧ w'.cell? ⟨b5, 3, none⟩ = some (.int .i64 s3) ∧ w'.cell? ⟨b5, 4, none⟩ = some (.int .i64 s4) ∧ w'.cell? ⟨b4, 0, none⟩ = some (.int .i64 r0) ∧ w'.cell? ⟨b4, 1, none⟩ = some (.int .i64 r1) ∧ w'.cell? ⟨b4, 2, none⟩ = some (.int .i64 r2) ∧ w'.cell? ⟨b4, 3, none⟩ = some (.int .i64 r3) ∧ w'.cell? ⟨b4, 4, none⟩ = some (.int .i64 r4) ∧ w'.cell? ⟨b1, 0, none⟩ = some (.int .i64 A) ∧ w'.cell? ⟨b1, 1, none⟩ = some (.int .i64 B) ∧ w'.cell? ⟨b2, 0, none⟩ = some (.int .i64 n0) ∧ w'.cell? ⟨b2, 1, none⟩ = some (.int .i64 n1) ∧ w'.cell? ⟨b2, 2, none⟩ = some (.int .i64 n2) ∧ w'.cell? ⟨b2, 3, none⟩ = some (.int .i64 n3) ∧ w'.cell? ⟨b2, 4, none⟩ = some (.int .i64 d) ∧ w'.cell? ⟨b3, 0, none⟩ = some (.int .i64 m0) ∧ w'.cell? ⟨b3, 1, none⟩ = some (.int .i64 m1) ∧ w'.cell? ⟨b3, 2, none⟩ = some (.int .i64 m2) ∧ w'.cell? ⟨b3, 3, none⟩ = some (.int .i64 m3) ∧ w'.cell? ⟨b3, 4, none⟩ = some (.int .i64 f) := ⟨h.c (b5, 0, .int .i64 s0) (by simp), h.c (b5, 1, .int .i64 s1) (by simp), h.c (b5, 2, .int .i64 s2) (by simp), h.c (b5, 3, .int .i64 s3) (by simp), h.c (b5, 4, .int .i64 s4) (by simp), h.c (b4, 0, .int .i64 r0) (by simp), h.c (b4, 1, .int .i64 r1) (by simp), h.c (b4, 2, .int .i64 r2) (by simp), h.c (b4, 3, .int .i64 r3) (by simp), h.c (b4, 4, .int .i64 r4) (by simp), h.c (b1, 0, .int .i64 A) (by simp), h.c (b1, 1, .int .i64 B) (by simp), h.c (b2, 0, .int .i64 n0) (by simp), h.c (b2, 1, .int .i64 n1) (by simp), h.c (b2, 2, .int .i64 n2) (by simp), h.c (b2, 3, .int .i64 n3) (by simp), h.c (b2, 4, .int .i64 d) (by simp), h.c (b3, 0, .int .i64 m0) (by simp), h.c (b3, 1, .int .i64 m1) (by simp), h.c (b3, 2, .int .i64 m2) (by simp), h.c (b3, 3, .int .i64 m3) (by simp), h.c (b3, 4, .int .i64 f) (by simp)⟩
theorem K_O5.zs {A B n0 n1 n2 n3 d m0 m1 m2 m3 f r0 r1 r2 r3 r4 s0 s1 s2 s3 s4 : Int} {b1 b2 b3 b4 b5 : Nat} {w w' : World} (h : K_O5 A B n0 n1 n2 n3 d m0 m1 m2 m3 f r0 r1 r2 r3 r4 s0 s1 s2 s3 s4 b1 b2 b3 b4 b5 w w') : b5 < w'.heap.size ∧ b4 < w'.heap.size ∧ b1 < w'.heap.size ∧ b2 < w'.heap.size ∧ b3 < w'.heap.size ∧ True := ⟨KL.z h (x := (b5, 0, .int .i64 s0)) (by simp), KL.z h (x := (b4, 0, .int .i64 r0)) (by simp), KL.z h (x := (b1, 0, .int .i64 A)) (by simp), KL.z h (x := (b2, 0, .int .i64 n0)) (by simp), KL.z h (x := (b3, 0, .int .i64 m0)) (by simp), trivial⟩
theorem K_O5.ks {A B n0 n1 n2 n3 d m0 m1 m2 m3 f r0 r1 r2 r3 r4 s0 s1 s2 s3 s4 : Int} {b1 b2 b3 b4 b5 : Nat} {w w' : World} (h : K_O5 A B n0 n1 n2 n3 d m0 m1 m2 m3 f r0 r1 r2 r3 r4 s0 s1 s2 s3 s4 b1 b2 b3 b4 b5 w w') : (w'.cell? ⟨b5, 0, none⟩ = some (.int .i64 s0) ∧ w'.cell? ⟨b5, 1, none⟩ = some (.int .i64 s1) ∧ w'.cell? ⟨b5, 2, none⟩ = some (.int .i64 s2) ∧ w'.cell? ⟨b5, 3, none⟩ = some (.int .i64 s3) ∧ w'.cell? ⟨b5, 4, none⟩ = some (.int .i64 s4) ∧ w'.cell? ⟨b4, 0, none⟩ = some (.int .i64 r0) ∧ w'.cell? ⟨b4, 1, none⟩ = some (.int .i64 r1) ∧ w'.cell? ⟨b4, 2, none⟩ = some (.int .i64 r2) ∧ w'.cell? ⟨b4, 3, none⟩ = some (.int .i64 r3) ∧ w'.cell? ⟨b4, 4, none⟩ = some (.int .i64 r4) ∧ w'.cell? ⟨b1, 0, none⟩ = some (.int .i64 A) ∧ w'.cell? ⟨b1, 1, none⟩ = some (.int .i64 B) ∧ w'.cell? ⟨b2, 0, none⟩ = some (.int .i64 n0) ∧ w'.cell? ⟨b2, 1, none⟩ = some (.int .i64 n1) ∧ w'.cell? ⟨b2, 2, none⟩ = some (.int .i64 n2) ∧ w'.cell? ⟨b2, 3, none⟩ = some (.int .i64 n3) ∧ w'.cell? ⟨b2, 4, none⟩ = some (.int .i64 d) ∧ w'.cell? ⟨b3, 0, none⟩ = some (.int .i64 m0) ∧ w'.cell? ⟨b3, 1, none⟩ = some (.int .i64 m1) ∧ w'.cell? ⟨b3, 2, none⟩ = some (.int .i64 m2) ∧ w'.cell? ⟨b3, 3, none⟩ = some (.int .i64 m3) ∧ w'.cell? ⟨b3, 4, none⟩ = some (.int .i64 f)) ∧ K_O5 A B n0 n1 n2 n3 d m0 m1 m2 m3 f r0 r1 r2 r3 r4 s0 s1 s2 s3 s4 b1 b2 b3 b4 b5 w w' := ⟨h.cells, h⟩
set_option maxHeartbeats 12800000 in
theorem Turned_any (A B n0 n1 n2 n3 d m0 m1 m2 m3 f : Int) (w : World) (hA : Bn 1000 A) (hB : Bn 1000 B) (h : chkQ n0 n1 n2 n3 d = 0) (h' : chkQ m0 m1 m2 m3 f = 0) :
    Calls Tryd.prog 37 #[.agg #[.int .i64 A, .int .i64 B], .agg #[.int .i64 n0, .int .i64 n1, .int .i64 n2, .int .i64 n3, .int .i64 d], .agg #[.int .i64 m0, .int .i64 m1, .int .i64 m2, .int .i64 m3, .int .i64 f]] w fun e w' => e = .returned (.bool (tnB A B ⟨n0, n1, n2, n3, d⟩ ⟨m0, m1, m2, m3, f⟩)) ∧ Below w.heap.size w w' := by
  obtain ⟨a0, a1, a2, a3, a4, a5⟩ := qin_of h
  obtain ⟨c0, c1, c2, c3, c4, c5⟩ := qin_of h'
  have hd : Bn 1000000 d := ⟨by omega, by omega⟩
  have hf : Bn 1000000 f := ⟨by omega, by omega⟩
  have P1 := Lib.hid (fun W => Product_any A B n0 n1 n2 n3 d m0 m1 m2 m3 f W hA hB a0 a1 a2 a3 hd c0 c1 c2 c3 hf)
  have P2 := Lib.hid (fun W => Product_any A B m0 m1 m2 m3 f n0 n1 n2 n3 d W hA hB c0 c1 c2 c3 hf a0 a1 a2 a3 hd)
  have b := mul_bds hA hB c0 c1 c2 c3 a0 a1 a2 a3
  unfold Bn at b
  have hw : ∀ a : Int, a * -1 = -a := fun a => by omega
  unfold tnB
  simp only [hw]
  generalize pw A B n0 n1 n2 n3 m0 m1 m2 m3 = t0 at *
  generalize px B n0 n1 n2 n3 m0 m1 m2 m3 = t1 at *
  generalize py A n0 n1 n2 n3 m0 m1 m2 m3 = t2 at *
  generalize pz n0 n1 n2 n3 m0 m1 m2 m3 = t3 at *
  generalize pw A B m0 m1 m2 m3 n0 n1 n2 n3 = u0 at *
  generalize px B m0 m1 m2 m3 n0 n1 n2 n3 = u1 at *
  generalize py A m0 m1 m2 m3 n0 n1 n2 n3 = u2 at *
  generalize pz m0 m1 m2 m3 n0 n1 n2 n3 = u3 at *
  generalize d * f = df at *
  generalize f * d = fd' at *
  obtain ⟨⟨b0, b0'⟩, ⟨b1, b1'⟩, ⟨b2, b2'⟩, b3, b3'⟩ := b
  clear h h' a0 a1 a2 a3 a4 a5 c0 c1 c2 c3 c4 c5 hA hB hd hf hw
  go_enter Tryd.func37, Tryd.ntmps37
  go_wp2_with fail
  have hk : K_O0 A B n0 n1 n2 n3 d m0 m1 m2 m3 f w.heap.size (w.heap.size + 1) (w.heap.size + 2) w (((w.alloc (.cells #[.int .i64 A, .int .i64 B] 23)).alloc (.cells #[.int .i64 n0, .int .i64 n1, .int .i64 n2, .int .i64 n3, .int .i64 d] 39)).alloc (.cells #[.int .i64 m0, .int .i64 m1, .int .i64 m2, .int .i64 m3, .int .i64 f] 39)) := ⟨by simp [go_sem], by simp [go_sem], by simp [go_sem], by (repeat (first | (with_reducible exact Below.refl _ _) | (with_reducible exact HB.out) | (with_reducible refine below_draws ?_ _) | (with_reducible refine Below.alloc ?_ (by go_size) _) | (with_reducible refine Below.setCell ?_ (by go_size) _) | (with_reducible refine Below.alloc ?_ (by simp <;> omega) _) | (with_reducible refine Below.setCell ?_ (by simp <;> omega) _)))⟩
  generalize (((w.alloc (.cells #[.int .i64 A, .int .i64 B] 23)).alloc (.cells #[.int .i64 n0, .int .i64 n1, .int .i64 n2, .int .i64 n3, .int .i64 d] 39)).alloc (.cells #[.int .i64 m0, .int .i64 m1, .int .i64 m2, .int .i64 m3, .int .i64 f] 39)) = wr at hk ⊢
  obtain ⟨y0_, y1_, y2_, -⟩ := K_O0.zs hk
  refine merge_rest2 (K := fun p q w9 => K_O5 A B n0 n1 n2 n3 d m0 m1 m2 m3 f t0 t1 t2 t3 df u0 u1 u2 u3 fd' w.heap.size (w.heap.size + 1) (w.heap.size + 2) p q w w9) ?G ?main ?rest
  case main =>
    intro REST
    go_region_held3 (fun w' => (w'.cell? ⟨w.heap.size, 0, none⟩ = some (.int .i64 A) ∧ w'.cell? ⟨w.heap.size, 1, none⟩ = some (.int .i64 B) ∧ w'.cell? ⟨(w.heap.size + 1), 0, none⟩ = some (.int .i64 n0) ∧ w'.cell? ⟨(w.heap.size + 1), 1, none⟩ = some (.int .i64 n1) ∧ w'.cell? ⟨(w.heap.size + 1), 2, none⟩ = some (.int .i64 n2) ∧ w'.cell? ⟨(w.heap.size + 1), 3, none⟩ = some (.int .i64 n3) ∧ w'.cell? ⟨(w.heap.size + 1), 4, none⟩ = some (.int .i64 d) ∧ w'.cell? ⟨(w.heap.size + 2), 0, none⟩ = some (.int .i64 m0) ∧ w'.cell? ⟨(w.heap.size + 2), 1, none⟩ = some (.int .i64 m1) ∧ w'.cell? ⟨(w.heap.size + 2), 2, none⟩ = some (.int .i64 m2) ∧ w'.cell? ⟨(w.heap.size + 2), 3, none⟩ = some (.int .i64 m3) ∧ w'.cell? ⟨(w.heap.size + 2), 4, none⟩ = some (.int .i64 f)) ∧ K_O0 A B n0 n1 n2 n3 d m0 m1 m2 m3 f w.heap.size (w.heap.size + 1) (w.heap.size + 2) w w') ((refine K_O0.ks ?_; repeat (first | (with_reducible assumption) | (with_reducible refine K_O0.draws _ ?_) | (with_reducible refine K_O0.drew ?_) | (with_reducible refine K_O0.alloc _ ?_) | (with_reducible refine K_O0.set ?_ _ _ _ (by omega)))))
      (first
        | (go_at_call 63; (with_reducible refine (P1.out _).mono ?_); rintro e w' ⟨rfl, hbel⟩; have hk' := K_O0.below hbel (And.right (by assumption)); obtain ⟨z0_, z1_, z2_, -⟩ := K_O0.zs hk'; (first
            | (have hz : K_Q6 0 0 0 0 0 0 0 0 0 0 wr.heap.size (wr.heap.size + 1) w w' := KL.below hbel (KL.draws 1 (KL.push5w (KL.push5w (KL.sub1 hk) 0 0 0 0 0 _ _ rfl) 0 0 0 0 0 _ _ (by simp))); obtain ⟨t1_, t0_, -⟩ := K_Q6.zs hz)
            | (have hz : K_Q6 0 0 0 0 0 0 0 0 0 0 wr.heap.size (wr.heap.size + 1) w w' := KL.below hbel (KL.push5w (KL.push5w (KL.sub1 hk) 0 0 0 0 0 _ _ rfl) 0 0 0 0 0 _ _ (by simp)); obtain ⟨t1_, t0_, -⟩ := K_Q6.zs hz)
            | (have hz : K_Q5 0 0 0 0 0 wr.heap.size w w' := KL.below hbel (KL.draws 1 (KL.push5w (KL.sub1 hk) 0 0 0 0 0 _ _ rfl)); obtain ⟨t0_, -⟩ := K_Q5.zs hz)
            | (have hz : K_Q5 0 0 0 0 0 wr.heap.size w w' := KL.below hbel (KL.push5w (KL.sub1 hk) 0 0 0 0 0 _ _ rfl); obtain ⟨t0_, -⟩ := K_Q5.zs hz)
            | skip))
        | (go_at_call 63; (with_reducible refine (P2.out _).mono ?_); have hold := hk'; rintro e w'' ⟨rfl, hbel2⟩; have hk2 := K_O0.below hbel2 (And.right (by assumption)); obtain ⟨x0_, x1_, x2_, -⟩ := K_O0.zs hk2; (first
            | (have hz2 : K_Q6 0 0 0 0 0 0 0 0 0 0 wr.heap.size (wr.heap.size + 1) w w'' := KL.below hbel2 hz; obtain ⟨c0_, c1_, c2_, c3_, c4_, c5_, c6_, c7_, c8_, c9_, f0_, f1_, f2_, f3_, f4_, f5_, f6_, f7_, f8_, f9_⟩ := K_Q6.cells hz2; obtain ⟨v0_, v1_, -⟩ := K_Q6.zs hz2)
            | (have hz2 : K_Q6 0 0 0 0 0 0 0 0 0 0 wr.heap.size w'.heap.size w w'' := KL.below hbel2 (KL.push5w hz 0 0 0 0 0 _ _ rfl); obtain ⟨c0_, c1_, c2_, c3_, c4_, c5_, c6_, c7_, c8_, c9_, f0_, f1_, f2_, f3_, f4_, f5_, f6_, f7_, f8_, f9_⟩ := K_Q6.cells hz2; obtain ⟨v0_, v1_, -⟩ := K_Q6.zs hz2)
            | (have hz2 : K_Q5 0 0 0 0 0 wr.heap.size w w'' := KL.below hbel2 hz; obtain ⟨c0_, c1_, c2_, c3_, c4_, f0_, f1_, f2_, f3_, f4_⟩ := K_Q5.cells hz2; obtain ⟨v0_, -⟩ := K_Q5.zs hz2)
            | (have hz2 : K_Q6 0 0 0 0 0 0 0 0 0 0 w'.heap.size (w'.heap.size + 1) w w'' := KL.below hbel2 (KL.push5w (KL.push5w (KL.sub1 hold) 0 0 0 0 0 _ _ rfl) 0 0 0 0 0 _ _ (by simp)); obtain ⟨c0_, c1_, c2_, c3_, c4_, c5_, c6_, c7_, c8_, c9_, f0_, f1_, f2_, f3_, f4_, f5_, f6_, f7_, f8_, f9_⟩ := K_Q6.cells hz2; obtain ⟨v0_, v1_, -⟩ := K_Q6.zs hz2)
            | (have hz2 : K_Q5 0 0 0 0 0 w'.heap.size w w'' := KL.below hbel2 (KL.push5w (KL.sub1 hold) 0 0 0 0 0 _ _ rfl); obtain ⟨c0_, c1_, c2_, c3_, c4_, f0_, f1_, f2_, f3_, f4_⟩ := K_Q5.cells hz2; obtain ⟨v0_, -⟩ := K_Q5.zs hz2)
            | skip)))
    · rename_i hh
      clear hh
      have hK : K_O5 A B n0 n1 n2 n3 d m0 m1 m2 m3 f t0 t1 t2 t3 df u0 u1 u2 u3 fd' w.heap.size (w.heap.size + 1) (w.heap.size + 2) w''.heap.size (w''.heap.size + 1) w ((w''.alloc (.cells #[.int .i64 t0, .int .i64 t1, .int .i64 t2, .int .i64 t3, .int .i64 df] 39)).alloc (.cells #[.int .i64 u0, .int .i64 u1, .int .i64 u2, .int .i64 u3, .int .i64 fd'] 39)) := KL.push5 (KL.push5 hk2 t0 t1 t2 t3 df _ _ rfl) u0 u1 u2 u3 fd' _ _ (by simp)
      generalize ((w''.alloc (.cells #[.int .i64 t0, .int .i64 t1, .int .i64 t2, .int .i64 t3, .int .i64 df] 39)).alloc (.cells #[.int .i64 u0, .int .i64 u1, .int .i64 u2, .int .i64 u3, .int .i64 fd'] 39)) = w9 at hK ⊢
      generalize w''.heap.size + 1 = q at hK ⊢
      generalize w''.heap.size = p at hK ⊢
      exact REST.out _ _ _ hK
    all_goals
      rename_i hh
      first
        | exact REST.out w'.heap.size w''.heap.size _ (KL.cons5g (KL.cons5g hh.2 w'.heap.size t0 t1 t2 t3 df (by simp [go_sem, *])) w''.heap.size u0 u1 u2 u3 fd' (by simp [go_sem, *]))
        | exact REST.out wr.heap.size w''.heap.size _ (KL.cons5g (KL.cons5g hh.2 wr.heap.size t0 t1 t2 t3 df (by simp [go_sem, *])) w''.heap.size u0 u1 u2 u3 fd' (by simp [go_sem, *]))
        | exact REST.out wr.heap.size w'.heap.size _ (KL.cons5g (KL.cons5g hh.2 wr.heap.size t0 t1 t2 t3 df (by simp [go_sem, *])) w'.heap.size u0 u1 u2 u3 fd' (by simp [go_sem, *]))
        | exact REST.out w'.heap.size (w'.heap.size + 1) _ (KL.cons5g (KL.cons5g hh.2 w'.heap.size t0 t1 t2 t3 df (by simp [go_sem, *])) (w'.heap.size + 1) u0 u1 u2 u3 fd' (by simp [go_sem, *]))
        | exact REST.out wr.heap.size (wr.heap.size + 1) _ (KL.cons5g (KL.cons5g hh.2 wr.heap.size t0 t1 t2 t3 df (by simp [go_sem, *])) (wr.heap.size + 1) u0 u1 u2 u3 fd' (by simp [go_sem, *]))
        | exact REST.out w''.heap.size w'.heap.size _ (KL.cons5g (KL.cons5g hh.2 w''.heap.size t0 t1 t2 t3 df (by simp [go_sem, *])) w'.heap.size u0 u1 u2 u3 fd' (by simp [go_sem, *]))
        | exact REST.out w''.heap.size wr.heap.size _ (KL.cons5g (KL.cons5g hh.2 w''.heap.size t0 t1 t2 t3 df (by simp [go_sem, *])) wr.heap.size u0 u1 u2 u3 fd' (by simp [go_sem, *]))
        | exact REST.out w'.heap.size wr.heap.size _ (KL.cons5g (KL.cons5g hh.2 w'.heap.size t0 t1 t2 t3 df (by simp [go_sem, *])) wr.heap.size u0 u1 u2 u3 fd' (by simp [go_sem, *]))
        | exact REST.out (w'.heap.size + 1) w'.heap.size _ (KL.cons5g (KL.cons5g hh.2 (w'.heap.size + 1) t0 t1 t2 t3 df (by simp [go_sem, *])) w'.heap.size u0 u1 u2 u3 fd' (by simp [go_sem, *]))
        | exact REST.out (wr.heap.size + 1) wr.heap.size _ (KL.cons5g (KL.cons5g hh.2 (wr.heap.size + 1) t0 t1 t2 t3 df (by simp [go_sem, *])) wr.heap.size u0 u1 u2 u3 fd' (by simp [go_sem, *]))
        | exact REST.out (w''.heap.size + 1) w''.heap.size _ (KL.cons5g (KL.cons5g hh.2 (w''.heap.size + 1) t0 t1 t2 t3 df (by simp [go_sem, *])) w''.heap.size u0 u1 u2 u3 fd' (by simp [go_sem, *]))
  case rest =>
  clear hk y0_ y1_ y2_
  intro p q w2 hK
  rcases four_ways (t0 == -u0) (t1 == -u1) (t2 == -u2) (t3 == -u3) with e1 | ⟨e1, e2 | ⟨e2, e3 | ⟨e3, e4 | e4⟩⟩⟩
  all_goals
    obtain ⟨c0_, c1_, c2_, c3_, c4_, c5_, c6_, c7_, c8_, c9_, c10_, c11_, c12_, c13_, c14_, c15_, c16_, c17_, c18_, c19_, c20_, c21_⟩ := K_O5.cells hK; obtain ⟨z0_, z1_, z2_, z3_, z4_, -⟩ := K_O5.zs hK; have HK := Lib.hid hK; clear hK
    go_wp2
    go_ret
    exact ⟨by simp [*], K_O5.bel HK.out⟩
end Go.Proofs.YtgbnmnkgelklbaaDoor.Al
