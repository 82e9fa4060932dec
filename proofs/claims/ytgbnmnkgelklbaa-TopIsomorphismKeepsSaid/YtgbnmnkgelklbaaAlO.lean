/-
  Images of i and j: mathematics; the walks of both sides' tests.
-/
import Derived.Test.YtgbnmnkgelklbaaAlX
import Derived.Test.YtgbnmnkgelklbaaAlR
import Derived.Test.YtgbnmnkgelklbaaAln
namespace Go.Proofs.Ytgbnmnkgelklbaa.Al
open Go.RowKit
open Alm
set_option linter.unusedVariables false
set_option linter.unusedSimpArgs false
set_option maxRecDepth 100000
/-- the square is n -/
def sqB (A B : Int) (q : Q) (n : Int) : Bool := pw A B q.w q.x q.y q.z q.w q.x q.y q.z == n * q.d * q.d && (px B q.w q.x q.y q.z q.w q.x q.y q.z == 0 && (py A q.w q.x q.y q.z q.w q.x q.y q.z == 0 && pz q.w q.x q.y q.z q.w q.x q.y q.z == 0))
/-- the products have different signs -/
def tnB (A B : Int) (p q : Q) : Bool := pw A B p.w p.x p.y p.z q.w q.x q.y q.z == pw A B q.w q.x q.y q.z p.w p.x p.y p.z * -1 && (px B p.w p.x p.y p.z q.w q.x q.y q.z == px B q.w q.x q.y q.z p.w p.x p.y p.z * -1 && (py A p.w p.x p.y p.z q.w q.x q.y q.z == py A q.w q.x q.y q.z p.w p.x p.y p.z * -1 && pz p.w p.x p.y p.z q.w q.x q.y q.z == pz q.w q.x q.y q.z p.w p.x p.y p.z * -1))
theorem mul_cancel_iff {a b c : Int} (hc : c ≠ 0) : a * c = b * c ↔ a = b := ⟨fun h => Int.eq_of_mul_eq_mul_right hc h, fun h => by rw [h]⟩
theorem sq_low (A B : Int) (q : Q) (n : Int) (h : 0 < q.d) : sqB A B q.low n = sqB A B q n := by
  obtain ⟨c, hc, e⟩ := q.lows h
  have hcc : c * c ≠ 0 := Int.mul_ne_zero (by omega) (by omega)
  have e0 : sqB A B q n = sqB A B (q.low.mulc c) n := by rw [← e]
  rw [e0]
  generalize q.low = P
  have h0 : pw A B (P.mulc c).w (P.mulc c).x (P.mulc c).y (P.mulc c).z (P.mulc c).w (P.mulc c).x (P.mulc c).y (P.mulc c).z = pw A B P.w P.x P.y P.z P.w P.x P.y P.z * (c * c) := by simp only [Q.mulc, pw]; grind
  have h1 : px B (P.mulc c).w (P.mulc c).x (P.mulc c).y (P.mulc c).z (P.mulc c).w (P.mulc c).x (P.mulc c).y (P.mulc c).z = px B P.w P.x P.y P.z P.w P.x P.y P.z * (c * c) := by simp only [Q.mulc, px]; grind
  have h2 : py A (P.mulc c).w (P.mulc c).x (P.mulc c).y (P.mulc c).z (P.mulc c).w (P.mulc c).x (P.mulc c).y (P.mulc c).z = py A P.w P.x P.y P.z P.w P.x P.y P.z * (c * c) := by simp only [Q.mulc, py]; grind
  have h3 : pz (P.mulc c).w (P.mulc c).x (P.mulc c).y (P.mulc c).z (P.mulc c).w (P.mulc c).x (P.mulc c).y (P.mulc c).z = pz P.w P.x P.y P.z P.w P.x P.y P.z * (c * c) := by simp only [Q.mulc, pz]; grind
  have h4 : n * (P.mulc c).d * (P.mulc c).d = n * P.d * P.d * (c * c) := by simp only [Q.mulc]; grind
  unfold sqB
  rw [h0, h1, h2, h3, h4]
  have z : ∀ a : Int, (a * (c * c) = 0) = (a = 0) := fun a => propext ⟨fun h => by rcases Int.mul_eq_zero.1 h with h | h; exact h; exact absurd h hcc, fun h => by rw [h, Int.zero_mul]⟩
  have y : ∀ a b : Int, (a * (c * c) = b * (c * c)) = (a = b) := fun a b => propext (mul_cancel_iff hcc)
  rw [Bool.eq_iff_iff]
  simp only [Bool.and_eq_true, beq_iff_eq, z, y]
theorem tn_low (A B : Int) (p q : Q) (hp : 0 < p.d) (hq : 0 < q.d) : tnB A B p.low q.low = tnB A B p q := by
  obtain ⟨c, hc, e⟩ := p.lows hp
  obtain ⟨d, hd, f⟩ := q.lows hq
  have hcc : c * d ≠ 0 := Int.mul_ne_zero (by omega) (by omega)
  have e0 : tnB A B p q = tnB A B (p.low.mulc c) (q.low.mulc d) := by rw [← e, ← f]
  rw [e0]
  generalize p.low = P
  generalize q.low = R
  have h0 : ∀ P R : Q, ∀ c d : Int, pw A B (P.mulc c).w (P.mulc c).x (P.mulc c).y (P.mulc c).z (R.mulc d).w (R.mulc d).x (R.mulc d).y (R.mulc d).z = pw A B P.w P.x P.y P.z R.w R.x R.y R.z * (c * d) := by intros; simp only [Q.mulc, pw]; grind
  have h1 : ∀ P R : Q, ∀ c d : Int, px B (P.mulc c).w (P.mulc c).x (P.mulc c).y (P.mulc c).z (R.mulc d).w (R.mulc d).x (R.mulc d).y (R.mulc d).z = px B P.w P.x P.y P.z R.w R.x R.y R.z * (c * d) := by intros; simp only [Q.mulc, px]; grind
  have h2 : ∀ P R : Q, ∀ c d : Int, py A (P.mulc c).w (P.mulc c).x (P.mulc c).y (P.mulc c).z (R.mulc d).w (R.mulc d).x (R.mulc d).y (R.mulc d).z = py A P.w P.x P.y P.z R.w R.x R.y R.z * (c * d) := by intros; simp only [Q.mulc, py]; grind
  have h3 : ∀ P R : Q, ∀ c d : Int, pz (P.mulc c).w (P.mulc c).x (P.mulc c).y (P.mulc c).z (R.mulc d).w (R.mulc d).x (R.mulc d).y (R.mulc d).z = pz P.w P.x P.y P.z R.w R.x R.y R.z * (c * d) := by intros; simp only [Q.mulc, pz]; grind
  unfold tnB
  rw [h0 P R, h1 P R, h2 P R, h3 P R, h0 R P, h1 R P, h2 R P, h3 R P]
  have y : ∀ a b : Int, (a * (c * d) = b * (d * c) * -1) = (a = b * -1) := fun a b => propext ⟨fun h => Int.eq_of_mul_eq_mul_right hcc (by rw [h]; grind), fun h => by rw [h]; grind⟩
  rw [Bool.eq_iff_iff]
  simp only [Bool.and_eq_true, beq_iff_eq, y]
/-- what a walk keeps: cells, and that nothing that was there has turned -/
def K_O1 (A B n0 n1 n2 n3 d : Int) (b1 b2 b3 : Nat) (w w' : World) : Prop := KL w [(b3, 0, .int .i64 n0), (b3, 1, .int .i64 n1), (b3, 2, .int .i64 n2), (b3, 3, .int .i64 n3), (b1, 0, .int .i64 A), (b1, 1, .int .i64 B), (b2, 0, .int .i64 n0), (b2, 1, .int .i64 n1), (b2, 2, .int .i64 n2), (b2, 3, .int .i64 n3), (b2, 4, .int .i64 d)] [] w'
theorem K_O1.below {A B n0 n1 n2 n3 d : Int} {b1 b2 b3 : Nat} {w w1 w2 : World} (hb : Below w1.heap.size w1 w2) (h : K_O1 A B n0 n1 n2 n3 d b1 b2 b3 w w1) : K_O1 A B n0 n1 n2 n3 d b1 b2 b3 w w2 := KL.below hb h
theorem K_O1.draws {A B n0 n1 n2 n3 d : Int} {b1 b2 b3 : Nat} {w w1 : World} (n : Nat) (h : K_O1 A B n0 n1 n2 n3 d b1 b2 b3 w w1) : K_O1 A B n0 n1 n2 n3 d b1 b2 b3 w (w1.drewN n) := KL.draws n h
theorem K_O1.drew {A B n0 n1 n2 n3 d : Int} {b1 b2 b3 : Nat} {w w1 : World} (h : K_O1 A B n0 n1 n2 n3 d b1 b2 b3 w w1) : K_O1 A B n0 n1 n2 n3 d b1 b2 b3 w w1.drew := KL.draws 1 h
theorem K_O1.alloc {A B n0 n1 n2 n3 d : Int} {b1 b2 b3 : Nat} {w w1 : World} (o : Obj) (h : K_O1 A B n0 n1 n2 n3 d b1 b2 b3 w w1) : K_O1 A B n0 n1 n2 n3 d b1 b2 b3 w (w1.alloc o) := KL.alloc o h
theorem K_O1.set {A B n0 n1 n2 n3 d : Int} {b1 b2 b3 : Nat} {w w1 : World} (h : K_O1 A B n0 n1 n2 n3 d b1 b2 b3 w w1) (b i : Nat) (v : Value) (hb : b ≠ b3 ∧ b ≠ b1 ∧ b ≠ b2 ∧ w.heap.size ≤ b) : K_O1 A B n0 n1 n2 n3 d b1 b2 b3 w (w1.setCell ⟨b, i, none⟩ v) :=
  KL.set h b i v (by intro x hx; simp only [List.mem_cons, List.not_mem_nil, or_false] at hx; rcases hx with rfl | rfl | rfl | rfl | rfl | rfl | rfl | rfl | rfl | rfl | rfl <;> simp only [] <;> omega) (by omega)
theorem K_O1.bel {A B n0 n1 n2 n3 d : Int} {b1 b2 b3 : Nat} {w w1 : World} (h : K_O1 A B n0 n1 n2 n3 d b1 b2 b3 w w1) : Below w.heap.size w w1 := KL.bel h
theorem K_O1.cells {A B n0 n1 n2 n3 d : Int} {b1 b2 b3 : Nat} {w w' : World} (h : K_O1 A B n0 n1 n2 n3 d b1 b2 b3 w w') : w'.cell? ⟨b3, 0, none⟩ = some (.int .i64 n0) ∧ w'.cell? ⟨b3, 1, none⟩ = some (.int .i64 n1) ∧ w'.cell? ⟨b3, 2, none⟩ = some (.int .i64 n2) ∧ w'.cell? ⟨b3, 3, none⟩ = some (.int .i64 n3) ∧ w'.cell? ⟨b1, 0, none⟩ = some (.int .i64 A) ∧ w'.cell? ⟨b1, 1, none⟩ = some (.int .i64 B) ∧ w'.cell? ⟨b2, 0, none⟩ = some (.int .i64 n0) ∧ w'.cell? ⟨b2, 1, none⟩ = some (.int .i64 n1) ∧ w'.cell? ⟨b2, 2, none⟩ = some (.int .i64 n2) ∧ w'.cell? ⟨b2, 3, none⟩ = some (.int .i64 n3) ∧ w'.cell? ⟨b2, 4, none⟩ = some (.int .i64 d) := ⟨h.c (b3, 0, .int .i64 n0) (by simp), h.c (b3, 1, .int .i64 n1) (by simp), h.c (b3, 2, .int .i64 n2) (by simp), h.c (b3, 3, .int .i64 n3) (by simp), h.c (b1, 0, .int .i64 A) (by simp), h.c (b1, 1, .int .i64 B) (by simp), h.c (b2, 0, .int .i64 n0) (by simp), h.c (b2, 1, .int .i64 n1) (by simp), h.c (b2, 2, .int .i64 n2) (by simp), h.c (b2, 3, .int .i64 n3) (by simp), h.c (b2, 4, .int .i64 d) (by simp)⟩
theorem K_O1.zs {A B n0 n1 n2 n3 d : Int} {b1 b2 b3 : Nat} {w w' : World} (h : K_O1 A B n0 n1 n2 n3 d b1 b2 b3 w w') : b3 < w'.heap.size ∧ b1 < w'.heap.size ∧ b2 < w'.heap.size ∧ True := ⟨KL.z h (x := (b3, 0, .int .i64 n0)) (by simp), KL.z h (x := (b1, 0, .int .i64 A)) (by simp), KL.z h (x := (b2, 0, .int .i64 n0)) (by simp), trivial⟩
theorem K_O1.ks {A B n0 n1 n2 n3 d : Int} {b1 b2 b3 : Nat} {w w' : World} (h : K_O1 A B n0 n1 n2 n3 d b1 b2 b3 w w') : (w'.cell? ⟨b3, 0, none⟩ = some (.int .i64 n0) ∧ w'.cell? ⟨b3, 1, none⟩ = some (.int .i64 n1) ∧ w'.cell? ⟨b3, 2, none⟩ = some (.int .i64 n2) ∧ w'.cell? ⟨b3, 3, none⟩ = some (.int .i64 n3) ∧ w'.cell? ⟨b1, 0, none⟩ = some (.int .i64 A) ∧ w'.cell? ⟨b1, 1, none⟩ = some (.int .i64 B) ∧ w'.cell? ⟨b2, 0, none⟩ = some (.int .i64 n0) ∧ w'.cell? ⟨b2, 1, none⟩ = some (.int .i64 n1) ∧ w'.cell? ⟨b2, 2, none⟩ = some (.int .i64 n2) ∧ w'.cell? ⟨b2, 3, none⟩ = some (.int .i64 n3) ∧ w'.cell? ⟨b2, 4, none⟩ = some (.int .i64 d)) ∧ K_O1 A B n0 n1 n2 n3 d b1 b2 b3 w w' := ⟨h.cells, h⟩
set_option maxHeartbeats 3200000 in
theorem isRoot_any (A B n0 n1 n2 n3 d n : Int) (w : World) (hA : Bn 1000 A) (hB : Bn 1000 B) (h : chkQ n0 n1 n2 n3 d = 0) (hn : Bn 1000 n) :
    Calls Try.prog 43 #[.agg #[.int .i64 A, .int .i64 B], .agg #[.int .i64 n0, .int .i64 n1, .int .i64 n2, .int .i64 n3, .int .i64 d], .int .i64 n] w fun e w' => e = .returned (.bool (sqB A B ⟨n0, n1, n2, n3, d⟩ n)) ∧ Below w.heap.size w w' := by
  obtain ⟨a0, a1, a2, a3, a4, a5⟩ := qin_of h
  have TM := Lib.hid (fun W => times_any A B n0 n1 n2 n3 n0 n1 n2 n3 W hA hB a0 a1 a2 a3 a0 a1 a2 a3)
  have hd : Bn 1000000 d := ⟨by omega, by omega⟩
  have q1 := Bn.mul 1000000000 hn hd rfl
  obtain ⟨q2, q2'⟩ := Bn.mul 1000000000000000 q1 hd rfl
  obtain ⟨q1, q1'⟩ := q1
  have EF := Lib.hid (IntWalk.i64_in (n * d) (by omega))
  have EG := Lib.hid (IntWalk.i64_in (n * d * d) (by omega))
  unfold sqB
  simp only []
  generalize pw A B n0 n1 n2 n3 n0 n1 n2 n3 = t0 at *
  generalize px B n0 n1 n2 n3 n0 n1 n2 n3 = t1 at *
  generalize py A n0 n1 n2 n3 n0 n1 n2 n3 = t2 at *
  generalize pz n0 n1 n2 n3 n0 n1 n2 n3 = t3 at *
  have eq := Try.eq4 t0 t1 t2 t3 (n * d * d) 0 0 0
  clear h a0 a1 a2 a3 a4 a5 hA hB hn hd
  go_enter Try.func43, Try.ntmps43
  go_wp2_with fail
  refine (numeratorsOf_any _ _ _ _ _ _).mono ?_
  rintro e w1 ⟨rfl, hb⟩
  have hK : K_Nd A B n0 n1 n2 n3 d w.heap.size (w.heap.size + 1) w w1 := K_Nd.below hb ⟨by simp [go_sem], by simp [go_sem], by simp [go_sem], by (repeat (first | (with_reducible exact Below.refl _ _) | (with_reducible exact HB.out) | (with_reducible refine below_draws ?_ _) | (with_reducible refine Below.alloc ?_ (by go_size) _) | (with_reducible refine Below.setCell ?_ (by go_size) _) | (with_reducible refine Below.alloc ?_ (by simp <;> omega) _) | (with_reducible refine Below.setCell ?_ (by simp <;> omega) _)))⟩
  clear hb
  obtain ⟨c0_, c1_, c2_, c3_, c4_, c5_, c6_⟩ := K_Nd.cells hK; obtain ⟨z0_, z1_, -⟩ := K_Nd.zs hK; have HK := Lib.hid hK; clear hK
  go_wp2_with fail
  have hk : K_O1 A B n0 n1 n2 n3 d w.heap.size (w.heap.size + 1) w1.heap.size w (w1.alloc (.cells #[.int .i64 n0, .int .i64 n1, .int .i64 n2, .int .i64 n3] 73)) := KL.push4 HK.out n0 n1 n2 n3 _ _ rfl
  clear c0_ c1_ c2_ c3_ c4_ c5_ c6_ z0_ z1_
  clear HK
  have ef := EF.out
  have eg := EG.out
  go_region_held3 (fun w' => (w'.cell? ⟨w1.heap.size, 0, none⟩ = some (.int .i64 n0) ∧ w'.cell? ⟨w1.heap.size, 1, none⟩ = some (.int .i64 n1) ∧ w'.cell? ⟨w1.heap.size, 2, none⟩ = some (.int .i64 n2) ∧ w'.cell? ⟨w1.heap.size, 3, none⟩ = some (.int .i64 n3) ∧ w'.cell? ⟨w.heap.size, 0, none⟩ = some (.int .i64 A) ∧ w'.cell? ⟨w.heap.size, 1, none⟩ = some (.int .i64 B) ∧ w'.cell? ⟨(w.heap.size + 1), 0, none⟩ = some (.int .i64 n0) ∧ w'.cell? ⟨(w.heap.size + 1), 1, none⟩ = some (.int .i64 n1) ∧ w'.cell? ⟨(w.heap.size + 1), 2, none⟩ = some (.int .i64 n2) ∧ w'.cell? ⟨(w.heap.size + 1), 3, none⟩ = some (.int .i64 n3) ∧ w'.cell? ⟨(w.heap.size + 1), 4, none⟩ = some (.int .i64 d)) ∧ K_O1 A B n0 n1 n2 n3 d w.heap.size (w.heap.size + 1) w1.heap.size w w') ((refine K_O1.ks ?_; repeat (first | (with_reducible assumption) | (with_reducible refine K_O1.draws _ ?_) | (with_reducible refine K_O1.drew ?_) | (with_reducible refine K_O1.alloc _ ?_) | (with_reducible refine K_O1.set ?_ _ _ _ (by omega)))))
    (first
      | (go_at_call 64; (with_reducible refine (TM.out _).mono ?_); rintro e w2 ⟨rfl, hbel⟩; have hk' := K_O1.below hbel (And.right (by assumption)); clear hbel))
  all_goals
    clear ef eg
    go_wp2
    go_ret
    exact ⟨rfl, K_O1.bel hk'⟩
/-- what a walk keeps: cells, and that nothing that was there has turned -/
def K_Q1 (a0 a1 a2 a3 : Int) (na : Nat) (w w' : World) : Prop := KL w [(na, 0, .int .i64 a0), (na, 1, .int .i64 a1), (na, 2, .int .i64 a2), (na, 3, .int .i64 a3)] [(na, 0), (na, 1), (na, 2), (na, 3)] w'
theorem K_Q1.below {a0 a1 a2 a3 : Int} {na : Nat} {w w1 w2 : World} (hb : Below w1.heap.size w1 w2) (h : K_Q1 a0 a1 a2 a3 na w w1) : K_Q1 a0 a1 a2 a3 na w w2 := KL.below hb h
theorem K_Q1.draws {a0 a1 a2 a3 : Int} {na : Nat} {w w1 : World} (n : Nat) (h : K_Q1 a0 a1 a2 a3 na w w1) : K_Q1 a0 a1 a2 a3 na w (w1.drewN n) := KL.draws n h
theorem K_Q1.drew {a0 a1 a2 a3 : Int} {na : Nat} {w w1 : World} (h : K_Q1 a0 a1 a2 a3 na w w1) : K_Q1 a0 a1 a2 a3 na w w1.drew := KL.draws 1 h
theorem K_Q1.alloc {a0 a1 a2 a3 : Int} {na : Nat} {w w1 : World} (o : Obj) (h : K_Q1 a0 a1 a2 a3 na w w1) : K_Q1 a0 a1 a2 a3 na w (w1.alloc o) := KL.alloc o h
theorem K_Q1.set {a0 a1 a2 a3 : Int} {na : Nat} {w w1 : World} (h : K_Q1 a0 a1 a2 a3 na w w1) (b i : Nat) (v : Value) (hb : b ≠ na ∧ w.heap.size ≤ b) : K_Q1 a0 a1 a2 a3 na w (w1.setCell ⟨b, i, none⟩ v) :=
  KL.set h b i v (by intro x hx; simp only [List.mem_cons, List.not_mem_nil, or_false] at hx; rcases hx with rfl | rfl | rfl | rfl <;> simp only [] <;> omega) (by omega)
theorem K_Q1.bel {a0 a1 a2 a3 : Int} {na : Nat} {w w1 : World} (h : K_Q1 a0 a1 a2 a3 na w w1) : Below w.heap.size w w1 := KL.bel h
theorem K_Q1.cells {a0 a1 a2 a3 : Int} {na : Nat} {w w' : World} (h : K_Q1 a0 a1 a2 a3 na w w') : w'.cell? ⟨na, 0, none⟩ = some (.int .i64 a0) ∧ w'.cell? ⟨na, 1, none⟩ = some (.int .i64 a1) ∧ w'.cell? ⟨na, 2, none⟩ = some (.int .i64 a2) ∧ w'.cell? ⟨na, 3, none⟩ = some (.int .i64 a3) ∧ w'.frozen? ⟨na, 0, none⟩ = false ∧ w'.frozen? ⟨na, 1, none⟩ = false ∧ w'.frozen? ⟨na, 2, none⟩ = false ∧ w'.frozen? ⟨na, 3, none⟩ = false := ⟨h.c (na, 0, .int .i64 a0) (by simp), h.c (na, 1, .int .i64 a1) (by simp), h.c (na, 2, .int .i64 a2) (by simp), h.c (na, 3, .int .i64 a3) (by simp), h.f (na, 0) (by simp), h.f (na, 1) (by simp), h.f (na, 2) (by simp), h.f (na, 3) (by simp)⟩
theorem K_Q1.zs {a0 a1 a2 a3 : Int} {na : Nat} {w w' : World} (h : K_Q1 a0 a1 a2 a3 na w w') : na < w'.heap.size ∧ True := ⟨KL.z h (x := (na, 0, .int .i64 a0)) (by simp), trivial⟩
theorem K_Q1.ks {a0 a1 a2 a3 : Int} {na : Nat} {w w' : World} (h : K_Q1 a0 a1 a2 a3 na w w') : (w'.cell? ⟨na, 0, none⟩ = some (.int .i64 a0) ∧ w'.cell? ⟨na, 1, none⟩ = some (.int .i64 a1) ∧ w'.cell? ⟨na, 2, none⟩ = some (.int .i64 a2) ∧ w'.cell? ⟨na, 3, none⟩ = some (.int .i64 a3) ∧ w'.frozen? ⟨na, 0, none⟩ = false ∧ w'.frozen? ⟨na, 1, none⟩ = false ∧ w'.frozen? ⟨na, 2, none⟩ = false ∧ w'.frozen? ⟨na, 3, none⟩ = false) ∧ K_Q1 a0 a1 a2 a3 na w w' := ⟨h.cells, h⟩
/-- what a walk keeps: cells, and that nothing that was there has turned -/
def K_Q2 (a0 a1 a2 a3 e0 e1 e2 e3 : Int) (na nb : Nat) (w w' : World) : Prop := KL w [(nb, 0, .int .i64 e0), (nb, 1, .int .i64 e1), (nb, 2, .int .i64 e2), (nb, 3, .int .i64 e3), (na, 0, .int .i64 a0), (na, 1, .int .i64 a1), (na, 2, .int .i64 a2), (na, 3, .int .i64 a3)] [(nb, 0), (nb, 1), (nb, 2), (nb, 3), (na, 0), (na, 1), (na, 2), (na, 3)] w'
theorem K_Q2.below {a0 a1 a2 a3 e0 e1 e2 e3 : Int} {na nb : Nat} {w w1 w2 : World} (hb : Below w1.heap.size w1 w2) (h : K_Q2 a0 a1 a2 a3 e0 e1 e2 e3 na nb w w1) : K_Q2 a0 a1 a2 a3 e0 e1 e2 e3 na nb w w2 := KL.below hb h
theorem K_Q2.draws {a0 a1 a2 a3 e0 e1 e2 e3 : Int} {na nb : Nat} {w w1 : World} (n : Nat) (h : K_Q2 a0 a1 a2 a3 e0 e1 e2 e3 na nb w w1) : K_Q2 a0 a1 a2 a3 e0 e1 e2 e3 na nb w (w1.drewN n) := KL.draws n h
theorem K_Q2.drew {a0 a1 a2 a3 e0 e1 e2 e3 : Int} {na nb : Nat} {w w1 : World} (h : K_Q2 a0 a1 a2 a3 e0 e1 e2 e3 na nb w w1) : K_Q2 a0 a1 a2 a3 e0 e1 e2 e3 na nb w w1.drew := KL.draws 1 h
theorem K_Q2.alloc {a0 a1 a2 a3 e0 e1 e2 e3 : Int} {na nb : Nat} {w w1 : World} (o : Obj) (h : K_Q2 a0 a1 a2 a3 e0 e1 e2 e3 na nb w w1) : K_Q2 a0 a1 a2 a3 e0 e1 e2 e3 na nb w (w1.alloc o) := KL.alloc o h
theorem K_Q2.set {a0 a1 a2 a3 e0 e1 e2 e3 : Int} {na nb : Nat} {w w1 : World} (h : K_Q2 a0 a1 a2 a3 e0 e1 e2 e3 na nb w w1) (b i : Nat) (v : Value) (hb : b ≠ nb ∧ b ≠ na ∧ w.heap.size ≤ b) : K_Q2 a0 a1 a2 a3 e0 e1 e2 e3 na nb w (w1.setCell ⟨b, i, none⟩ v) :=
  KL.set h b i v (by intro x hx; simp only [List.mem_cons, List.not_mem_nil, or_false] at hx; rcases hx with rfl | rfl | rfl | rfl | rfl | rfl | rfl | rfl <;> simp only [] <;> omega) (by omega)
theorem K_Q2.bel {a0 a1 a2 a3 e0 e1 e2 e3 : Int} {na nb : Nat} {w w1 : World} (h : K_Q2 a0 a1 a2 a3 e0 e1 e2 e3 na nb w w1) : Below w.heap.size w w1 := KL.bel h
theorem K_Q2.cells {a0 a1 a2 a3 e0 e1 e2 e3 : Int} {na nb : Nat} {w w' : World} (h : K_Q2 a0 a1 a2 a3 e0 e1 e2 e3 na nb w w') : w'.cell? ⟨nb, 0, none⟩ = some (.int .i64 e0) ∧ w'.cell? ⟨nb, 1, none⟩ = some (.int .i64 e1) ∧ w'.cell? ⟨nb, 2, none⟩ = some (.int .i64 e2) ∧ w'.cell? ⟨nb, 3, none⟩ = some (.int .i64 e3) ∧ w'.cell? ⟨na, 0, none⟩ = some (.int .i64 a0) ∧ w'.cell? ⟨na, 1, none⟩ = some (.int .i64 a1) ∧ w'.cell? ⟨na, 2, none⟩ = some (.int .i64 a2) ∧ w'.cell? ⟨na, 3, none⟩ = some (.int .i64 a3) ∧ w'.frozen? ⟨nb, 0, none⟩ = false ∧ w'.frozen? ⟨nb, 1, none⟩ = false ∧ w'.frozen? ⟨nb, 2, none⟩ = false ∧ w'.frozen? ⟨nb, 3, none⟩ = false ∧ w'.frozen? ⟨na, 0, none⟩ = false ∧ w'.frozen? ⟨na, 1, none⟩ = false ∧ w'.frozen? ⟨na, 2, none⟩ = false ∧ w'.frozen? ⟨na, 3, none⟩ = false := ⟨h.c (nb, 0, .int .i64 e0) (by simp), h.c (nb, 1, .int .i64 e1) (by simp), h.c (nb, 2, .int .i64 e2) (by simp), h.c (nb, 3, .int .i64 e3) (by simp), h.c (na, 0, .int .i64 a0) (by simp), h.c (na, 1, .int .i64 a1) (by simp), h.c (na, 2, .int .i64 a2) (by simp), h.c (na, 3, .int .i64 a3) (by simp), h.f (nb, 0) (by simp), h.f (nb, 1) (by simp), h.f (nb, 2) (by simp), h.f (nb, 3) (by simp), h.f (na, 0) (by simp), h.f (na, 1) (by simp), h.f (na, 2) (by simp), h.f (na, 3) (by simp)⟩
theorem K_Q2.zs {a0 a1 a2 a3 e0 e1 e2 e3 : Int} {na nb : Nat} {w w' : World} (h : K_Q2 a0 a1 a2 a3 e0 e1 e2 e3 na nb w w') : nb < w'.heap.size ∧ na < w'.heap.size ∧ True := ⟨KL.z h (x := (nb, 0, .int .i64 e0)) (by simp), KL.z h (x := (na, 0, .int .i64 a0)) (by simp), trivial⟩
theorem K_Q2.ks {a0 a1 a2 a3 e0 e1 e2 e3 : Int} {na nb : Nat} {w w' : World} (h : K_Q2 a0 a1 a2 a3 e0 e1 e2 e3 na nb w w') : (w'.cell? ⟨nb, 0, none⟩ = some (.int .i64 e0) ∧ w'.cell? ⟨nb, 1, none⟩ = some (.int .i64 e1) ∧ w'.cell? ⟨nb, 2, none⟩ = some (.int .i64 e2) ∧ w'.cell? ⟨nb, 3, none⟩ = some (.int .i64 e3) ∧ w'.cell? ⟨na, 0, none⟩ = some (.int .i64 a0) ∧ w'.cell? ⟨na, 1, none⟩ = some (.int .i64 a1) ∧ w'.cell? ⟨na, 2, none⟩ = some (.int .i64 a2) ∧ w'.cell? ⟨na, 3, none⟩ = some (.int .i64 a3) ∧ w'.frozen? ⟨nb, 0, none⟩ = false ∧ w'.frozen? ⟨nb, 1, none⟩ = false ∧ w'.frozen? ⟨nb, 2, none⟩ = false ∧ w'.frozen? ⟨nb, 3, none⟩ = false ∧ w'.frozen? ⟨na, 0, none⟩ = false ∧ w'.frozen? ⟨na, 1, none⟩ = false ∧ w'.frozen? ⟨na, 2, none⟩ = false ∧ w'.frozen? ⟨na, 3, none⟩ = false) ∧ K_Q2 a0 a1 a2 a3 e0 e1 e2 e3 na nb w w' := ⟨h.cells, h⟩
theorem KL.push4w {w0 : World} {cs : List (Nat × Nat × Value)} {fs : List (Nat × Nat)} {w : World} (h : KL w0 cs fs w) (a b c d : Int) (T : TypeId) (p : Nat) (hp : p = w.heap.size) : KL w0 ((p, 0, .int .i64 a) :: (p, 1, .int .i64 b) :: (p, 2, .int .i64 c) :: (p, 3, .int .i64 d) :: cs) ((p, 0) :: (p, 1) :: (p, 2) :: (p, 3) :: fs) (w.alloc (.cells #[.int .i64 a, .int .i64 b, .int .i64 c, .int .i64 d] T)) := by
  have h2 := h.push4 a b c d T p hp
  subst hp
  refine ⟨h2.c, fun x hx => ?_, fun x hx => ?_, h2.bel⟩
  · simp only [List.mem_cons] at hx
    rcases hx with rfl | rfl | rfl | rfl | hx
    · simp [go_sem]
    · simp [go_sem]
    · simp [go_sem]
    · simp [go_sem]
    · exact h2.g x hx
  · simp only [List.mem_cons] at hx
    rcases hx with rfl | rfl | rfl | rfl | hx
    · simp [go_sem]
    · simp [go_sem]
    · simp [go_sem]
    · simp [go_sem]
    · exact h2.f x hx
/-- what a walk keeps: cells, and that nothing that was there has turned -/
def K_O2 (A B n0 n1 n2 n3 d m0 m1 m2 m3 f : Int) (b1 b2 b3 b4 : Nat) (w w' : World) : Prop := KL w [(b4, 0, .int .i64 n0), (b4, 1, .int .i64 n1), (b4, 2, .int .i64 n2), (b4, 3, .int .i64 n3), (b1, 0, .int .i64 A), (b1, 1, .int .i64 B), (b2, 0, .int .i64 n0), (b2, 1, .int .i64 n1), (b2, 2, .int .i64 n2), (b2, 3, .int .i64 n3), (b2, 4, .int .i64 d), (b3, 0, .int .i64 m0), (b3, 1, .int .i64 m1), (b3, 2, .int .i64 m2), (b3, 3, .int .i64 m3), (b3, 4, .int .i64 f)] [] w'
theorem K_O2.below {A B n0 n1 n2 n3 d m0 m1 m2 m3 f : Int} {b1 b2 b3 b4 : Nat} {w w1 w2 : World} (hb : Below w1.heap.size w1 w2) (h : K_O2 A B n0 n1 n2 n3 d m0 m1 m2 m3 f b1 b2 b3 b4 w w1) : K_O2 A B n0 n1 n2 n3 d m0 m1 m2 m3 f b1 b2 b3 b4 w w2 := KL.below hb h
theorem K_O2.draws {A B n0 n1 n2 n3 d m0 m1 m2 m3 f : Int} {b1 b2 b3 b4 : Nat} {w w1 : World} (n : Nat) (h : K_O2 A B n0 n1 n2 n3 d m0 m1 m2 m3 f b1 b2 b3 b4 w w1) : K_O2 A B n0 n1 n2 n3 d m0 m1 m2 m3 f b1 b2 b3 b4 w (w1.drewN n) := KL.draws n h
theorem K_O2.drew {A B n0 n1 n2 n3 d m0 m1 m2 m3 f : Int} {b1 b2 b3 b4 : Nat} {w w1 : World} (h : K_O2 A B n0 n1 n2 n3 d m0 m1 m2 m3 f b1 b2 b3 b4 w w1) : K_O2 A B n0 n1 n2 n3 d m0 m1 m2 m3 f b1 b2 b3 b4 w w1.drew := KL.draws 1 h
theorem K_O2.alloc {A B n0 n1 n2 n3 d m0 m1 m2 m3 f : Int} {b1 b2 b3 b4 : Nat} {w w1 : World} (o : Obj) (h : K_O2 A B n0 n1 n2 n3 d m0 m1 m2 m3 f b1 b2 b3 b4 w w1) : K_O2 A B n0 n1 n2 n3 d m0 m1 m2 m3 f b1 b2 b3 b4 w (w1.alloc o) := KL.alloc o h
theorem K_O2.set {A B n0 n1 n2 n3 d m0 m1 m2 m3 f : Int} {b1 b2 b3 b4 : Nat} {w w1 : World} (h : K_O2 A B n0 n1 n2 n3 d m0 m1 m2 m3 f b1 b2 b3 b4 w w1) (b i : Nat) (v : Value) (hb : b ≠ b4 ∧ b ≠ b1 ∧ b ≠ b2 ∧ b ≠ b3 ∧ w.heap.size ≤ b) : K_O2 A B n0 n1 n2 n3 d m0 m1 m2 m3 f b1 b2 b3 b4 w (w1.setCell ⟨b, i, none⟩ v) :=
  KL.set h b i v (by intro x hx; simp only [List.mem_cons, List.not_mem_nil, or_false] at hx; rcases hx with rfl | rfl | rfl | rfl | rfl | rfl | rfl | rfl | rfl | rfl | rfl | rfl | rfl | rfl | rfl | rfl <;> simp only [] <;> omega) (by omega)
theorem K_O2.bel {A B n0 n1 n2 n3 d m0 m1 m2 m3 f : Int} {b1 b2 b3 b4 : Nat} {w w1 : World} (h : K_O2 A B n0 n1 n2 n3 d m0 m1 m2 m3 f b1 b2 b3 b4 w w1) : Below w.heap.size w w1 := KL.bel h
theorem K_O2.cells {A B n0 n1 n2 n3 d m0 m1 m2 m3 f : Int} {b1 b2 b3 b4 : Nat} {w w' : World} (h : K_O2 A B n0 n1 n2 n3 d m0 m1 m2 m3 f b1 b2 b3 b4 w w') : w'.cell? ⟨b4, 0, none⟩ = some (.int .i64 n0) ∧ w'.cell? ⟨b4, 1, none⟩ = some (.int .i64 n1) ∧ w'.cell? ⟨b4, 2, none⟩ = some (.int .i64 n2) ∧ w'.cell? ⟨b4, 3, none⟩ = some (.int .i64 n3) ∧ w'.cell? ⟨b1, 0, none⟩ = some (.int .i64 A) ∧ w'.cell? ⟨b1, 1, none⟩ = some (.int .i64 B) ∧ w'.cell? ⟨b2, 0, none⟩ = some (.int .i64 n0) ∧ w'.cell? ⟨b2, 1, none⟩ = some (.int .i64 n1) ∧ w'.cell? ⟨b2, 2, none⟩ = some (.int .i64 n2) ∧ w'.cell? ⟨b2, 3, none⟩ = some (.int .i64 n3) ∧ w'.cell? ⟨b2, 4, none⟩ = some (.int .i64 d) ∧ w'.cell? ⟨b3, 0, none⟩ = some (.int .i64 m0) ∧ w'.cell? ⟨b3, 1, none⟩ = some (.int .i64 m1) ∧ w'.cell? ⟨b3, 2, none⟩ = some (.int .i64 m2) ∧ w'.cell? ⟨b3, 3, none⟩ = some (.int .i64 m3) ∧ w'.cell? ⟨b3, 4, none⟩ = some (.int .i64 f) := ⟨h.c (b4, 0, .int .i64 n0) (by simp), h.c (b4, 1, .int .i64 n1) (by simp), h.c (b4, 2, .int .i64 n2) (by simp), h.c (b4, 3, .int .i64 n3) (by simp), h.c (b1, 0, .int .i64 A) (by simp), h.c (b1, 1, .int .i64 B) (by simp), h.c (b2, 0, .int .i64 n0) (by simp), h.c (b2, 1, .int .i64 n1) (by simp), h.c (b2, 2, .int .i64 n2) (by simp), h.c (b2, 3, .int .i64 n3) (by simp), h.c (b2, 4, .int .i64 d) (by simp), h.c (b3, 0, .int .i64 m0) (by simp), h.c (b3, 1, .int .i64 m1) (by simp), h.c (b3, 2, .int .i64 m2) (by simp), h.c (b3, 3, .int .i64 m3) (by simp), h.c (b3, 4, .int .i64 f) (by simp)⟩
theorem K_O2.zs {A B n0 n1 n2 n3 d m0 m1 m2 m3 f : Int} {b1 b2 b3 b4 : Nat} {w w' : World} (h : K_O2 A B n0 n1 n2 n3 d m0 m1 m2 m3 f b1 b2 b3 b4 w w') : b4 < w'.heap.size ∧ b1 < w'.heap.size ∧ b2 < w'.heap.size ∧ b3 < w'.heap.size ∧ True := ⟨KL.z h (x := (b4, 0, .int .i64 n0)) (by simp), KL.z h (x := (b1, 0, .int .i64 A)) (by simp), KL.z h (x := (b2, 0, .int .i64 n0)) (by simp), KL.z h (x := (b3, 0, .int .i64 m0)) (by simp), trivial⟩
theorem K_O2.ks {A B n0 n1 n2 n3 d m0 m1 m2 m3 f : Int} {b1 b2 b3 b4 : Nat} {w w' : World} (h : K_O2 A B n0 n1 n2 n3 d m0 m1 m2 m3 f b1 b2 b3 b4 w w') : (w'.cell? ⟨b4, 0, none⟩ = some (.int .i64 n0) ∧ w'.cell? ⟨b4, 1, none⟩ = some (.int .i64 n1) ∧ w'.cell? ⟨b4, 2, none⟩ = some (.int .i64 n2) ∧ w'.cell? ⟨b4, 3, none⟩ = some (.int .i64 n3) ∧ w'.cell? ⟨b1, 0, none⟩ = some (.int .i64 A) ∧ w'.cell? ⟨b1, 1, none⟩ = some (.int .i64 B) ∧ w'.cell? ⟨b2, 0, none⟩ = some (.int .i64 n0) ∧ w'.cell? ⟨b2, 1, none⟩ = some (.int .i64 n1) ∧ w'.cell? ⟨b2, 2, none⟩ = some (.int .i64 n2) ∧ w'.cell? ⟨b2, 3, none⟩ = some (.int .i64 n3) ∧ w'.cell? ⟨b2, 4, none⟩ = some (.int .i64 d) ∧ w'.cell? ⟨b3, 0, none⟩ = some (.int .i64 m0) ∧ w'.cell? ⟨b3, 1, none⟩ = some (.int .i64 m1) ∧ w'.cell? ⟨b3, 2, none⟩ = some (.int .i64 m2) ∧ w'.cell? ⟨b3, 3, none⟩ = some (.int .i64 m3) ∧ w'.cell? ⟨b3, 4, none⟩ = some (.int .i64 f)) ∧ K_O2 A B n0 n1 n2 n3 d m0 m1 m2 m3 f b1 b2 b3 b4 w w' := ⟨h.cells, h⟩
/-- what a walk keeps: cells, and that nothing that was there has turned -/
def K_O3 (A B n0 n1 n2 n3 d m0 m1 m2 m3 f : Int) (b1 b2 b3 b4 b5 : Nat) (w w' : World) : Prop := KL w [(b5, 0, .int .i64 m0), (b5, 1, .int .i64 m1), (b5, 2, .int .i64 m2), (b5, 3, .int .i64 m3), (b4, 0, .int .i64 n0), (b4, 1, .int .i64 n1), (b4, 2, .int .i64 n2), (b4, 3, .int .i64 n3), (b1, 0, .int .i64 A), (b1, 1, .int .i64 B), (b2, 0, .int .i64 n0), (b2, 1, .int .i64 n1), (b2, 2, .int .i64 n2), (b2, 3, .int .i64 n3), (b2, 4, .int .i64 d), (b3, 0, .int .i64 m0), (b3, 1, .int .i64 m1), (b3, 2, .int .i64 m2), (b3, 3, .int .i64 m3), (b3, 4, .int .i64 f)] [] w'
theorem K_O3.below {A B n0 n1 n2 n3 d m0 m1 m2 m3 f : Int} {b1 b2 b3 b4 b5 : Nat} {w w1 w2 : World} (hb : Below w1.heap.size w1 w2) (h : K_O3 A B n0 n1 n2 n3 d m0 m1 m2 m3 f b1 b2 b3 b4 b5 w w1) : K_O3 A B n0 n1 n2 n3 d m0 m1 m2 m3 f b1 b2 b3 b4 b5 w w2 := KL.below hb h
theorem K_O3.draws {A B n0 n1 n2 n3 d m0 m1 m2 m3 f : Int} {b1 b2 b3 b4 b5 : Nat} {w w1 : World} (n : Nat) (h : K_O3 A B n0 n1 n2 n3 d m0 m1 m2 m3 f b1 b2 b3 b4 b5 w w1) : K_O3 A B n0 n1 n2 n3 d m0 m1 m2 m3 f b1 b2 b3 b4 b5 w (w1.drewN n) := KL.draws n h
theorem K_O3.drew {A B n0 n1 n2 n3 d m0 m1 m2 m3 f : Int} {b1 b2 b3 b4 b5 : Nat} {w w1 : World} (h : K_O3 A B n0 n1 n2 n3 d m0 m1 m2 m3 f b1 b2 b3 b4 b5 w w1) : K_O3 A B n0 n1 n2 n3 d m0 m1 m2 m3 f b1 b2 b3 b4 b5 w w1.drew := KL.draws 1 h
theorem K_O3.alloc {A B n0 n1 n2 n3 d m0 m1 m2 m3 f : Int} {b1 b2 b3 b4 b5 : Nat} {w w1 : World} (o : Obj) (h : K_O3 A B n0 n1 n2 n3 d m0 m1 m2 m3 f b1 b2 b3 b4 b5 w w1) : K_O3 A B n0 n1 n2 n3 d m0 m1 m2 m3 f b1 b2 b3 b4 b5 w (w1.alloc o) := KL.alloc o h
theorem K_O3.set {A B n0 n1 n2 n3 d m0 m1 m2 m3 f : Int} {b1 b2 b3 b4 b5 : Nat} {w w1 : World} (h : K_O3 A B n0 n1 n2 n3 d m0 m1 m2 m3 f b1 b2 b3 b4 b5 w w1) (b i : Nat) (v : Value) (hb : b ≠ b5 ∧ b ≠ b4 ∧ b ≠ b1 ∧ b ≠ b2 ∧ b ≠ b3 ∧ w.heap.size ≤ b) : K_O3 A B n0 n1 n2 n3 d m0 m1 m2 m3 f b1 b2 b3 b4 b5 w (w1.setCell ⟨b, i, none⟩ v) :=
  KL.set h b i v (by intro x hx; simp only [List.mem_cons, List.not_mem_nil, or_false] at hx; rcases hx with rfl | rfl | rfl | rfl | rfl | rfl | rfl | rfl | rfl | rfl | rfl | rfl | rfl | rfl | rfl | rfl | rfl | rfl | rfl | rfl <;> simp only [] <;> omega) (by omega)
theorem K_O3.bel {A B n0 n1 n2 n3 d m0 m1 m2 m3 f : Int} {b1 b2 b3 b4 b5 : Nat} {w w1 : World} (h : K_O3 A B n0 n1 n2 n3 d m0 m1 m2 m3 f b1 b2 b3 b4 b5 w w1) : Below w.heap.size w w1 := KL.bel h
theorem K_O3.cells {A B n0 n1 n2 n3 d m0 m1 m2 m3 f : Int} {b1 b2 b3 b4 b5 : Nat} {w w' : World} (h : K_O3 A B n0 n1 n2 n3 d m0 m1 m2 m3 f b1 b2 b3 b4 b5 w w') : w'.cell? ⟨b5, 0, none⟩ = some (.int .i64 m0) ∧ w'.cell? ⟨b5, 1, none⟩ = some (.int .i64 m1) ∧ w'.cell? ⟨b5, 2, none⟩ = some (.int .i64 m2) ∧ w'.cell? ⟨b5, 3, none⟩ = some (.int .i64 m3) ∧ w'.cell? ⟨b4, 0, none⟩ = some (.int .i64 n0) ∧ w'.cell? ⟨b4, 1, none⟩ = some (.int .i64 n1) ∧ w'.cell? ⟨b4, 2, none⟩ = some (.int .i64 n2) ∧ w'.cell? ⟨b4, 3, none⟩ = some (.int .i64 n3) ∧ w'.cell? ⟨b1, 0, none⟩ = some (.int .i64 A) ∧ w'.cell? ⟨b1, 1, none⟩ = some (.int .i64 B) ∧ w'.cell? ⟨b2, 0, none⟩ = some (.int .i64 n0) ∧ w'.cell? ⟨b2, 1, none⟩ = some (.int .i64 n1) ∧ w'.cell? ⟨b2, 2, none⟩ = some (.int .i64 n2) ∧ w'.cell? ⟨b2, 3, none⟩ = some (.int .i64 n3) ∧ w'.cell? ⟨b2, 4, none⟩ = some (.int .i64 d) ∧ w'.cell? ⟨b3, 0, none⟩ = some (.int .i64 m0) ∧ w'.cell? ⟨b3, 1, none⟩ = some (.int .i64 m1) ∧ w'.cell? ⟨b3, 2, none⟩ = some (.int .i64 m2) ∧ w'.cell? ⟨b3, 3, none⟩ = some (.int .i64 m3) ∧ w'.cell? ⟨b3, 4, none⟩ = some (.int .i64 f) := ⟨h.c (b5, 0, .int .i64 m0) (by simp), h.c (b5, 1, .int .i64 m1) (by simp), h.c (b5, 2, .int .i64 m2) (by simp), h.c (b5, 3, .int .i64 m3) (by simp), h.c (b4, 0, .int .i64 n0) (by simp), h.c (b4, 1, .int .i64 n1) (by simp), h.c (b4, 2, .int .i64 n2) (by simp), h.c (b4, 3, .int .i64 n3) (by simp), h.c (b1, 0, .int .i64 A) (by simp), h.c (b1, 1, .int .i64 B) (by simp), h.c (b2, 0, .int .i64 n0) (by simp), h.c (b2, 1, .int .i64 n1) (by simp), h.c (b2, 2, .int .i64 n2) (by simp), h.c (b2, 3, .int .i64 n3) (by simp), h.c (b2, 4, .int .i64 d) (by simp), h.c (b3, 0, .int .i64 m0) (by simp), h.c (b3, 1, .int .i64 m1) (by simp), h.c (b3, 2, .int .i64 m2) (by simp), h.c (b3, 3, .int .i64 m3) (by simp), h.c (b3, 4, .int .i64 f) (by simp)⟩
theorem K_O3.zs {A B n0 n1 n2 n3 d m0 m1 m2 m3 f : Int} {b1 b2 b3 b4 b5 : Nat} {w w' : World} (h : K_O3 A B n0 n1 n2 n3 d m0 m1 m2 m3 f b1 b2 b3 b4 b5 w w') : b5 < w'.heap.size ∧ b4 < w'.heap.size ∧ b1 < w'.heap.size ∧ b2 < w'.heap.size ∧ b3 < w'.heap.size ∧ True := ⟨KL.z h (x := (b5, 0, .int .i64 m0)) (by simp), KL.z h (x := (b4, 0, .int .i64 n0)) (by simp), KL.z h (x := (b1, 0, .int .i64 A)) (by simp), KL.z h (x := (b2, 0, .int .i64 n0)) (by simp), KL.z h (x := (b3, 0, .int .i64 m0)) (by simp), trivial⟩
theorem K_O3.ks {A B n0 n1 n2 n3 d m0 m1 m2 m3 f : Int} {b1 b2 b3 b4 b5 : Nat} {w w' : World} (h : K_O3 A B n0 n1 n2 n3 d m0 m1 m2 m3 f b1 b2 b3 b4 b5 w w') : (w'.cell? ⟨b5, 0, none⟩ = some (.int .i64 m0) ∧ w'.cell? ⟨b5, 1, none⟩ = some (.int .i64 m1) ∧ w'.cell? ⟨b5, 2, none⟩ = some (.int .i64 m2) ∧ w'.cell? ⟨b5, 3, none⟩ = some (.int .i64 m3) ∧ w'.cell? ⟨b4, 0, none⟩ = some (.int .i64 n0) ∧ w'.cell? ⟨b4, 1, none⟩ = some (.int .i64 n1) ∧ w'.cell? ⟨b4, 2, none⟩ = some (.int .i64 n2) ∧ w'.cell? ⟨b4, 3, none⟩ = some (.int .i64 n3) ∧ w'.cell? ⟨b1, 0, none⟩ = some (.int .i64 A) ∧ w'.cell? ⟨b1, 1, none⟩ = some (.int .i64 B) ∧ w'.cell? ⟨b2, 0, none⟩ = some (.int .i64 n0) ∧ w'.cell? ⟨b2, 1, none⟩ = some (.int .i64 n1) ∧ w'.cell? ⟨b2, 2, none⟩ = some (.int .i64 n2) ∧ w'.cell? ⟨b2, 3, none⟩ = some (.int .i64 n3) ∧ w'.cell? ⟨b2, 4, none⟩ = some (.int .i64 d) ∧ w'.cell? ⟨b3, 0, none⟩ = some (.int .i64 m0) ∧ w'.cell? ⟨b3, 1, none⟩ = some (.int .i64 m1) ∧ w'.cell? ⟨b3, 2, none⟩ = some (.int .i64 m2) ∧ w'.cell? ⟨b3, 3, none⟩ = some (.int .i64 m3) ∧ w'.cell? ⟨b3, 4, none⟩ = some (.int .i64 f)) ∧ K_O3 A B n0 n1 n2 n3 d m0 m1 m2 m3 f b1 b2 b3 b4 b5 w w' := ⟨h.cells, h⟩
/-- what a walk keeps: cells, and that nothing that was there has turned -/
def K_O0 (A B n0 n1 n2 n3 d m0 m1 m2 m3 f : Int) (b1 b2 b3 : Nat) (w w' : World) : Prop := KL w [(b1, 0, .int .i64 A), (b1, 1, .int .i64 B), (b2, 0, .int .i64 n0), (b2, 1, .int .i64 n1), (b2, 2, .int .i64 n2), (b2, 3, .int .i64 n3), (b2, 4, .int .i64 d), (b3, 0, .int .i64 m0), (b3, 1, .int .i64 m1), (b3, 2, .int .i64 m2), (b3, 3, .int .i64 m3), (b3, 4, .int .i64 f)] [] w'
theorem K_O0.below {A B n0 n1 n2 n3 d m0 m1 m2 m3 f : Int} {b1 b2 b3 : Nat} {w w1 w2 : World} (hb : Below w1.heap.size w1 w2) (h : K_O0 A B n0 n1 n2 n3 d m0 m1 m2 m3 f b1 b2 b3 w w1) : K_O0 A B n0 n1 n2 n3 d m0 m1 m2 m3 f b1 b2 b3 w w2 := KL.below hb h
theorem K_O0.draws {A B n0 n1 n2 n3 d m0 m1 m2 m3 f : Int} {b1 b2 b3 : Nat} {w w1 : World} (n : Nat) (h : K_O0 A B n0 n1 n2 n3 d m0 m1 m2 m3 f b1 b2 b3 w w1) : K_O0 A B n0 n1 n2 n3 d m0 m1 m2 m3 f b1 b2 b3 w (w1.drewN n) := KL.draws n h
theorem K_O0.drew {A B n0 n1 n2 n3 d m0 m1 m2 m3 f : Int} {b1 b2 b3 : Nat} {w w1 : World} (h : K_O0 A B n0 n1 n2 n3 d m0 m1 m2 m3 f b1 b2 b3 w w1) : K_O0 A B n0 n1 n2 n3 d m0 m1 m2 m3 f b1 b2 b3 w w1.drew := KL.draws 1 h
theorem K_O0.alloc {A B n0 n1 n2 n3 d m0 m1 m2 m3 f : Int} {b1 b2 b3 : Nat} {w w1 : World} (o : Obj) (h : K_O0 A B n0 n1 n2 n3 d m0 m1 m2 m3 f b1 b2 b3 w w1) : K_O0 A B n0 n1 n2 n3 d m0 m1 m2 m3 f b1 b2 b3 w (w1.alloc o) := KL.alloc o h
theorem K_O0.set {A B n0 n1 n2 n3 d m0 m1 m2 m3 f : Int} {b1 b2 b3 : Nat} {w w1 : World} (h : K_O0 A B n0 n1 n2 n3 d m0 m1 m2 m3 f b1 b2 b3 w w1) (b i : Nat) (v : Value) (hb : b ≠ b1 ∧ b ≠ b2 ∧ b ≠ b3 ∧ w.heap.size ≤ b) : K_O0 A B n0 n1 n2 n3 d m0 m1 m2 m3 f b1 b2 b3 w (w1.setCell ⟨b, i, none⟩ v) :=
  KL.set h b i v (by intro x hx; simp only [List.mem_cons, List.not_mem_nil, or_false] at hx; rcases hx with rfl | rfl | rfl | rfl | rfl | rfl | rfl | rfl | rfl | rfl | rfl | rfl <;> simp only [] <;> omega) (by omega)
theorem K_O0.bel {A B n0 n1 n2 n3 d m0 m1 m2 m3 f : Int} {b1 b2 b3 : Nat} {w w1 : World} (h : K_O0 A B n0 n1 n2 n3 d m0 m1 m2 m3 f b1 b2 b3 w w1) : Below w.heap.size w w1 := KL.bel h
theorem K_O0.cells {A B n0 n1 n2 n3 d m0 m1 m2 m3 f : Int} {b1 b2 b3 : Nat} {w w' : World} (h : K_O0 A B n0 n1 n2 n3 d m0 m1 m2 m3 f b1 b2 b3 w w') : w'.cell? ⟨b1, 0, none⟩ = some (.int .i64 A) ∧ w'.cell? ⟨b1, 1, none⟩ = some (.int .i64 B) ∧ w'.cell? ⟨b2, 0, none⟩ = some (.int .i64 n0) ∧ w'.cell? ⟨b2, 1, none⟩ = some (.int .i64 n1) ∧ w'.cell? ⟨b2, 2, none⟩ = some (.int .i64 n2) ∧ w'.cell? ⟨b2, 3, none⟩ = some (.int .i64 n3) ∧ w'.cell? ⟨b2, 4, none⟩ = some (.int .i64 d) ∧ w'.cell? ⟨b3, 0, none⟩ = some (.int .i64 m0) ∧ w'.cell? ⟨b3, 1, none⟩ = some (.int .i64 m1) ∧ w'.cell? ⟨b3, 2, none⟩ = some (.int .i64 m2) ∧ w'.cell? ⟨b3, 3, none⟩ = some (.int .i64 m3) ∧ w'.cell? ⟨b3, 4, none⟩ = some (.int .i64 f) := ⟨h.c (b1, 0, .int .i64 A) (by simp), h.c (b1, 1, .int .i64 B) (by simp), h.c (b2, 0, .int .i64 n0) (by simp), h.c (b2, 1, .int .i64 n1) (by simp), h.c (b2, 2, .int .i64 n2) (by simp), h.c (b2, 3, .int .i64 n3) (by simp), h.c (b2, 4, .int .i64 d) (by simp), h.c (b3, 0, .int .i64 m0) (by simp), h.c (b3, 1, .int .i64 m1) (by simp), h.c (b3, 2, .int .i64 m2) (by simp), h.c (b3, 3, .int .i64 m3) (by simp), h.c (b3, 4, .int .i64 f) (by simp)⟩
theorem K_O0.zs {A B n0 n1 n2 n3 d m0 m1 m2 m3 f : Int} {b1 b2 b3 : Nat} {w w' : World} (h : K_O0 A B n0 n1 n2 n3 d m0 m1 m2 m3 f b1 b2 b3 w w') : b1 < w'.heap.size ∧ b2 < w'.heap.size ∧ b3 < w'.heap.size ∧ True := ⟨KL.z h (x := (b1, 0, .int .i64 A)) (by simp), KL.z h (x := (b2, 0, .int .i64 n0)) (by simp), KL.z h (x := (b3, 0, .int .i64 m0)) (by simp), trivial⟩
theorem K_O0.ks {A B n0 n1 n2 n3 d m0 m1 m2 m3 f : Int} {b1 b2 b3 : Nat} {w w' : World} (h : K_O0 A B n0 n1 n2 n3 d m0 m1 m2 m3 f b1 b2 b3 w w') : (w'.cell? ⟨b1, 0, none⟩ = some (.int .i64 A) ∧ w'.cell? ⟨b1, 1, none⟩ = some (.int .i64 B) ∧ w'.cell? ⟨b2, 0, none⟩ = some (.int .i64 n0) ∧ w'.cell? ⟨b2, 1, none⟩ = some (.int .i64 n1) ∧ w'.cell? ⟨b2, 2, none⟩ = some (.int .i64 n2) ∧ w'.cell? ⟨b2, 3, none⟩ = some (.int .i64 n3) ∧ w'.cell? ⟨b2, 4, none⟩ = some (.int .i64 d) ∧ w'.cell? ⟨b3, 0, none⟩ = some (.int .i64 m0) ∧ w'.cell? ⟨b3, 1, none⟩ = some (.int .i64 m1) ∧ w'.cell? ⟨b3, 2, none⟩ = some (.int .i64 m2) ∧ w'.cell? ⟨b3, 3, none⟩ = some (.int .i64 m3) ∧ w'.cell? ⟨b3, 4, none⟩ = some (.int .i64 f)) ∧ K_O0 A B n0 n1 n2 n3 d m0 m1 m2 m3 f b1 b2 b3 w w' := ⟨h.cells, h⟩
theorem mul_bds2 {A B n0 n1 n2 n3 m0 m1 m2 m3 : Int} (hA : Bn 1000 A) (hB : Bn 1000 B) (h0 : Bn 1000000 n0) (h1 : Bn 1000000 n1) (h2 : Bn 1000000 n2) (h3 : Bn 1000000 n3) (k0 : Bn 1000000 m0) (k1 : Bn 1000000 m1) (k2 : Bn 1000000 m2) (k3 : Bn 1000000 m3) :
    Bn 1002001000000000000 (pw A B n0 n1 n2 n3 m0 m1 m2 m3 * -1) ∧ Bn 2002000000000000 (px B n0 n1 n2 n3 m0 m1 m2 m3 * -1) ∧ Bn 2002000000000000 (py A n0 n1 n2 n3 m0 m1 m2 m3 * -1) ∧ Bn 4000000000000 (pz n0 n1 n2 n3 m0 m1 m2 m3 * -1) := by
  have := mul_bds hA hB h0 h1 h2 h3 k0 k1 k2 k3
  unfold Bn at this ⊢
  omega
/-- what a walk keeps: cells, and that nothing that was there has turned -/
def K_Q5 (a0 a1 a2 a3 a4 : Int) (na : Nat) (w w' : World) : Prop := KL w [(na, 0, .int .i64 a0), (na, 1, .int .i64 a1), (na, 2, .int .i64 a2), (na, 3, .int .i64 a3), (na, 4, .int .i64 a4)] [(na, 0), (na, 1), (na, 2), (na, 3), (na, 4)] w'
theorem K_Q5.below {a0 a1 a2 a3 a4 : Int} {na : Nat} {w w1 w2 : World} (hb : Below w1.heap.size w1 w2) (h : K_Q5 a0 a1 a2 a3 a4 na w w1) : K_Q5 a0 a1 a2 a3 a4 na w w2 := KL.below hb h
theorem K_Q5.draws {a0 a1 a2 a3 a4 : Int} {na : Nat} {w w1 : World} (n : Nat) (h : K_Q5 a0 a1 a2 a3 a4 na w w1) : K_Q5 a0 a1 a2 a3 a4 na w (w1.drewN n) := KL.draws n h
theorem K_Q5.drew {a0 a1 a2 a3 a4 : Int} {na : Nat} {w w1 : World} (h : K_Q5 a0 a1 a2 a3 a4 na w w1) : K_Q5 a0 a1 a2 a3 a4 na w w1.drew := KL.draws 1 h
theorem K_Q5.alloc {a0 a1 a2 a3 a4 : Int} {na : Nat} {w w1 : World} (o : Obj) (h : K_Q5 a0 a1 a2 a3 a4 na w w1) : K_Q5 a0 a1 a2 a3 a4 na w (w1.alloc o) := KL.alloc o h
theorem K_Q5.set {a0 a1 a2 a3 a4 : Int} {na : Nat} {w w1 : World} (h : K_Q5 a0 a1 a2 a3 a4 na w w1) (b i : Nat) (v : Value) (hb : b ≠ na ∧ w.heap.size ≤ b) : K_Q5 a0 a1 a2 a3 a4 na w (w1.setCell ⟨b, i, none⟩ v) :=
  KL.set h b i v (by intro x hx; simp only [List.mem_cons, List.not_mem_nil, or_false] at hx; rcases hx with rfl | rfl | rfl | rfl | rfl <;> simp only [] <;> omega) (by omega)
theorem K_Q5.bel {a0 a1 a2 a3 a4 : Int} {na : Nat} {w w1 : World} (h : K_Q5 a0 a1 a2 a3 a4 na w w1) : Below w.heap.size w w1 := KL.bel h
theorem K_Q5.cells {a0 a1 a2 a3 a4 : Int} {na : Nat} {w w' : World} (h : K_Q5 a0 a1 a2 a3 a4 na w w') : w'.cell? ⟨na, 0, none⟩ = some (.int .i64 a0) ∧ w'.cell? ⟨na, 1, none⟩ = some (.int .i64 a1) ∧ w'.cell? ⟨na, 2, none⟩ = some (.int .i64 a2) ∧ w'.cell? ⟨na, 3, none⟩ = some (.int .i64 a3) ∧ w'.cell? ⟨na, 4, none⟩ = some (.int .i64 a4) ∧ w'.frozen? ⟨na, 0, none⟩ = false ∧ w'.frozen? ⟨na, 1, none⟩ = false ∧ w'.frozen? ⟨na, 2, none⟩ = false ∧ w'.frozen? ⟨na, 3, none⟩ = false ∧ w'.frozen? ⟨na, 4, none⟩ = false := ⟨h.c (na, 0, .int .i64 a0) (by simp), h.c (na, 1, .int .i64 a1) (by simp), h.c (na, 2, .int .i64 a2) (by simp), h.c (na, 3, .int .i64 a3) (by simp), h.c (na, 4, .int .i64 a4) (by simp), h.f (na, 0) (by simp), h.f (na, 1) (by simp), h.f (na, 2) (by simp), h.f (na, 3) (by simp), h.f (na, 4) (by simp)⟩
theorem K_Q5.zs {a0 a1 a2 a3 a4 : Int} {na : Nat} {w w' : World} (h : K_Q5 a0 a1 a2 a3 a4 na w w') : na < w'.heap.size ∧ True := ⟨KL.z h (x := (na, 0, .int .i64 a0)) (by simp), trivial⟩
theorem K_Q5.ks {a0 a1 a2 a3 a4 : Int} {na : Nat} {w w' : World} (h : K_Q5 a0 a1 a2 a3 a4 na w w') : (w'.cell? ⟨na, 0, none⟩ = some (.int .i64 a0) ∧ w'.cell? ⟨na, 1, none⟩ = some (.int .i64 a1) ∧ w'.cell? ⟨na, 2, none⟩ = some (.int .i64 a2) ∧ w'.cell? ⟨na, 3, none⟩ = some (.int .i64 a3) ∧ w'.cell? ⟨na, 4, none⟩ = some (.int .i64 a4) ∧ w'.frozen? ⟨na, 0, none⟩ = false ∧ w'.frozen? ⟨na, 1, none⟩ = false ∧ w'.frozen? ⟨na, 2, none⟩ = false ∧ w'.frozen? ⟨na, 3, none⟩ = false ∧ w'.frozen? ⟨na, 4, none⟩ = false) ∧ K_Q5 a0 a1 a2 a3 a4 na w w' := ⟨h.cells, h⟩
/-- what a walk keeps: cells, and that nothing that was there has turned -/
def K_Q6 (a0 a1 a2 a3 a4 e0 e1 e2 e3 e4 : Int) (na nb : Nat) (w w' : World) : Prop := KL w [(nb, 0, .int .i64 e0), (nb, 1, .int .i64 e1), (nb, 2, .int .i64 e2), (nb, 3, .int .i64 e3), (nb, 4, .int .i64 e4), (na, 0, .int .i64 a0), (na, 1, .int .i64 a1), (na, 2, .int .i64 a2), (na, 3, .int .i64 a3), (na, 4, .int .i64 a4)] [(nb, 0), (nb, 1), (nb, 2), (nb, 3), (nb, 4), (na, 0), (na, 1), (na, 2), (na, 3), (na, 4)] w'
theorem K_Q6.below {a0 a1 a2 a3 a4 e0 e1 e2 e3 e4 : Int} {na nb : Nat} {w w1 w2 : World} (hb : Below w1.heap.size w1 w2) (h : K_Q6 a0 a1 a2 a3 a4 e0 e1 e2 e3 e4 na nb w w1) : K_Q6 a0 a1 a2 a3 a4 e0 e1 e2 e3 e4 na nb w w2 := KL.below hb h
theorem K_Q6.draws {a0 a1 a2 a3 a4 e0 e1 e2 e3 e4 : Int} {na nb : Nat} {w w1 : World} (n : Nat) (h : K_Q6 a0 a1 a2 a3 a4 e0 e1 e2 e3 e4 na nb w w1) : K_Q6 a0 a1 a2 a3 a4 e0 e1 e2 e3 e4 na nb w (w1.drewN n) := KL.draws n h
theorem K_Q6.drew {a0 a1 a2 a3 a4 e0 e1 e2 e3 e4 : Int} {na nb : Nat} {w w1 : World} (h : K_Q6 a0 a1 a2 a3 a4 e0 e1 e2 e3 e4 na nb w w1) : K_Q6 a0 a1 a2 a3 a4 e0 e1 e2 e3 e4 na nb w w1.drew := KL.draws 1 h
theorem K_Q6.alloc {a0 a1 a2 a3 a4 e0 e1 e2 e3 e4 : Int} {na nb : Nat} {w w1 : World} (o : Obj) (h : K_Q6 a0 a1 a2 a3 a4 e0 e1 e2 e3 e4 na nb w w1) : K_Q6 a0 a1 a2 a3 a4 e0 e1 e2 e3 e4 na nb w (w1.alloc o) := KL.alloc o h
theorem K_Q6.set {a0 a1 a2 a3 a4 e0 e1 e2 e3 e4 : Int} {na nb : Nat} {w w1 : World} (h : K_Q6 a0 a1 a2 a3 a4 e0 e1 e2 e3 e4 na nb w w1) (b i : Nat) (v : Value) (hb : b ≠ nb ∧ b ≠ na ∧ w.heap.size ≤ b) : K_Q6 a0 a1 a2 a3 a4 e0 e1 e2 e3 e4 na nb w (w1.setCell ⟨b, i, none⟩ v) :=
  KL.set h b i v (by intro x hx; simp only [List.mem_cons, List.not_mem_nil, or_false] at hx; rcases hx with rfl | rfl | rfl | rfl | rfl | rfl | rfl | rfl | rfl | rfl <;> simp only [] <;> omega) (by omega)
theorem K_Q6.bel {a0 a1 a2 a3 a4 e0 e1 e2 e3 e4 : Int} {na nb : Nat} {w w1 : World} (h : K_Q6 a0 a1 a2 a3 a4 e0 e1 e2 e3 e4 na nb w w1) : Below w.heap.size w w1 := KL.bel h
theorem K_Q6.cells {a0 a1 a2 a3 a4 e0 e1 e2 e3 e4 : Int} {na nb : Nat} {w w' : World} (h : K_Q6 a0 a1 a2 a3 a4 e0 e1 e2 e3 e4 na nb w w') : w'.cell? ⟨nb, 0, none⟩ = some (.int .i64 e0) ∧ w'.cell? ⟨nb, 1, none⟩ = some (.int .i64 e1) ∧ w'.cell? ⟨nb, 2, none⟩ = some (.int .i64 e2) ∧ w'.cell? ⟨nb, 3, none⟩ = some (.int .i64 e3) ∧ w'.cell? ⟨nb, 4, none⟩ = some (.int .i64 e4) ∧ w'.cell? ⟨na, 0, none⟩ = some (.int .i64 a0) ∧ w'.cell? ⟨na, 1, none⟩ = some (.int .i64 a1) ∧ w'.cell? ⟨na, 2, none⟩ = some (.int .i64 a2) ∧ w'.cell? ⟨na, 3, none⟩ = some (.int .i64 a3) ∧ w'.cell? ⟨na, 4, none⟩ = some (.int .i64 a4) ∧ w'.frozen? ⟨nb, 0, none⟩ = false ∧ w'.frozen? ⟨nb, 1, none⟩ = false ∧ w'.frozen? ⟨nb, 2, none⟩ = false ∧ w'.frozen? ⟨nb, 3, none⟩ = false ∧ w'.frozen? ⟨nb, 4, none⟩ = false ∧ w'.frozen? ⟨na, 0, none⟩ = false ∧ w'.frozen? ⟨na, 1, none⟩ = false ∧ w'.frozen? ⟨na, 2, none⟩ = false ∧ w'.frozen? ⟨na, 3, none⟩ = false ∧ w'.frozen? ⟨na, 4, none⟩ = false := ⟨h.c (nb, 0, .int .i64 e0) (by simp), h.c (nb, 1, .int .i64 e1) (by simp), h.c (nb, 2, .int .i64 e2) (by simp), h.c (nb, 3, .int .i64 e3) (by simp), h.c (nb, 4, .int .i64 e4) (by simp), h.c (na, 0, .int .i64 a0) (by simp), h.c (na, 1, .int .i64 a1) (by simp), h.c (na, 2, .int .i64 a2) (by simp), h.c (na, 3, .int .i64 a3) (by simp), h.c (na, 4, .int .i64 a4) (by simp), h.f (nb, 0) (by simp), h.f (nb, 1) (by simp), h.f (nb, 2) (by simp), h.f (nb, 3) (by simp), h.f (nb, 4) (by simp), h.f (na, 0) (by simp), h.f (na, 1) (by simp), h.f (na, 2) (by simp), h.f (na, 3) (by simp), h.f (na, 4) (by simp)⟩
theorem K_Q6.zs {a0 a1 a2 a3 a4 e0 e1 e2 e3 e4 : Int} {na nb : Nat} {w w' : World} (h : K_Q6 a0 a1 a2 a3 a4 e0 e1 e2 e3 e4 na nb w w') : nb < w'.heap.size ∧ na < w'.heap.size ∧ True := ⟨KL.z h (x := (nb, 0, .int .i64 e0)) (by simp), KL.z h (x := (na, 0, .int .i64 a0)) (by simp), trivial⟩
theorem K_Q6.ks {a0 a1 a2 a3 a4 e0 e1 e2 e3 e4 : Int} {na nb : Nat} {w w' : World} (h : K_Q6 a0 a1 a2 a3 a4 e0 e1 e2 e3 e4 na nb w w') : (w'.cell? ⟨nb, 0, none⟩ = some (.int .i64 e0) ∧ w'.cell? ⟨nb, 1, none⟩ = some (.int .i64 e1) ∧ w'.cell? ⟨nb, 2, none⟩ = some (.int .i64 e2) ∧ w'.cell? ⟨nb, 3, none⟩ = some (.int .i64 e3) ∧ w'.cell? ⟨nb, 4, none⟩ = some (.int .i64 e4) ∧ w'.cell? ⟨na, 0, none⟩ = some (.int .i64 a0) ∧ w'.cell? ⟨na, 1, none⟩ = some (.int .i64 a1) ∧ w'.cell? ⟨na, 2, none⟩ = some (.int .i64 a2) ∧ w'.cell? ⟨na, 3, none⟩ = some (.int .i64 a3) ∧ w'.cell? ⟨na, 4, none⟩ = some (.int .i64 a4) ∧ w'.frozen? ⟨nb, 0, none⟩ = false ∧ w'.frozen? ⟨nb, 1, none⟩ = false ∧ w'.frozen? ⟨nb, 2, none⟩ = false ∧ w'.frozen? ⟨nb, 3, none⟩ = false ∧ w'.frozen? ⟨nb, 4, none⟩ = false ∧ w'.frozen? ⟨na, 0, none⟩ = false ∧ w'.frozen? ⟨na, 1, none⟩ = false ∧ w'.frozen? ⟨na, 2, none⟩ = false ∧ w'.frozen? ⟨na, 3, none⟩ = false ∧ w'.frozen? ⟨na, 4, none⟩ = false) ∧ K_Q6 a0 a1 a2 a3 a4 e0 e1 e2 e3 e4 na nb w w' := ⟨h.cells, h⟩
theorem KL.cons5g {w0 : World} {cs : List (Nat × Nat × Value)} {fs : List (Nat × Nat)} {w : World} (h : KL w0 cs fs w) (p : Nat) (a b c d e : Int) (hh : w.cell? ⟨p, 0, none⟩ = some (.int .i64 a) ∧ w.cell? ⟨p, 1, none⟩ = some (.int .i64 b) ∧ w.cell? ⟨p, 2, none⟩ = some (.int .i64 c) ∧ w.cell? ⟨p, 3, none⟩ = some (.int .i64 d) ∧ w.cell? ⟨p, 4, none⟩ = some (.int .i64 e)) : KL w0 ((p, 0, .int .i64 a) :: (p, 1, .int .i64 b) :: (p, 2, .int .i64 c) :: (p, 3, .int .i64 d) :: (p, 4, .int .i64 e) :: cs) fs w := by
  obtain ⟨h0, h1, h2, h3, h4⟩ := hh
  refine ⟨fun x hx => ?_, h.g, h.f, h.bel⟩
  simp only [List.mem_cons] at hx
  rcases hx with rfl | rfl | rfl | rfl | rfl | hx
  · exact h0
  · exact h1
  · exact h2
  · exact h3
  · exact h4
  · exact h.c x hx
theorem merge_rest2 {Goal : Prop} {K : Nat → Nat → World → Prop} (G : Nat → Nat → World → Prop) (main : Hid (∀ p q w, K p q w → G p q w) → Goal) (rest : ∀ p q w, K p q w → G p q w) : Goal := main (Lib.hid rest)
theorem KL.cons4g {w0 : World} {cs : List (Nat × Nat × Value)} {fs : List (Nat × Nat)} {w : World} (h : KL w0 cs fs w) (p : Nat) (a b c d : Int) (hh : w.cell? ⟨p, 0, none⟩ = some (.int .i64 a) ∧ w.cell? ⟨p, 1, none⟩ = some (.int .i64 b) ∧ w.cell? ⟨p, 2, none⟩ = some (.int .i64 c) ∧ w.cell? ⟨p, 3, none⟩ = some (.int .i64 d)) : KL w0 ((p, 0, .int .i64 a) :: (p, 1, .int .i64 b) :: (p, 2, .int .i64 c) :: (p, 3, .int .i64 d) :: cs) fs w := by
  obtain ⟨h0, h1, h2, h3⟩ := hh
  refine ⟨fun x hx => ?_, h.g, h.f, h.bel⟩
  simp only [List.mem_cons] at hx
  rcases hx with rfl | rfl | rfl | rfl | hx
  · exact h0
  · exact h1
  · exact h2
  · exact h3
  · exact h.c x hx
end Go.Proofs.Ytgbnmnkgelklbaa.Al
