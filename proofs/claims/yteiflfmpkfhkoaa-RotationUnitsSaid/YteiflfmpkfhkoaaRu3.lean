/-
  WALKS: elements accepted as rotations, the program's.
-/
import Derived.Test.YteiflfmpkfhkoaaRu2
import Derived.Test.YteiflfmpkfhkoaaRtC
namespace Go.Proofs.Yteiflfmpkfhkoaa.Rt
open Go.RowKit
open Alm Hwm Al
set_option linter.unusedVariables false
set_option linter.unusedSimpArgs false
set_option maxRecDepth 100000
/-- the error of an element as a rotation -/
def atE (q : Q) : Int := if chkQ q.w q.x q.y q.z q.d ≠ 0 then chkQ q.w q.x q.y q.z q.d else if zeroB ⟨q.w, q.x, q.y, q.z⟩ = true then 10 else 0
theorem Try.eqF (a b c d x y z t : Int) (w : World) : (Op.equalIn 10000 95 (.agg #[.int .i64 a, .int .i64 b, .int .i64 c, .int .i64 d]) (.agg #[.int .i64 x, .int .i64 y, .int .i64 z, .int .i64 t])).run Try.prog w = .ok (a == x && (b == y && (c == z && d == t))) w := by
  by_cases g0 : a = x <;> by_cases g1 : b = y <;> by_cases g2 : c = z <;> by_cases g3 : d = t <;> simp [go_sem, g0, g1, g2, g3]
/-- what a walk keeps: cells, and that nothing that was there has turned -/
def K_At (n0 n1 n2 n3 n4 : Int) (p R : Nat) (w w' : World) : Prop := KL w [(p, 0, .int .i64 n0), (p, 1, .int .i64 n1), (p, 2, .int .i64 n2), (p, 3, .int .i64 n3), (p, 4, .int .i64 n4)] [(R, 0), (R, 1), (R, 2), (R, 3)] w'
theorem K_At.below {n0 n1 n2 n3 n4 : Int} {p R : Nat} {w w1 w2 : World} (hb : Below w1.heap.size w1 w2) (h : K_At n0 n1 n2 n3 n4 p R w w1) : K_At n0 n1 n2 n3 n4 p R w w2 := KL.below hb h
theorem K_At.draws {n0 n1 n2 n3 n4 : Int} {p R : Nat} {w w1 : World} (n : Nat) (h : K_At n0 n1 n2 n3 n4 p R w w1) : K_At n0 n1 n2 n3 n4 p R w (w1.drewN n) := KL.draws n h
theorem K_At.drew {n0 n1 n2 n3 n4 : Int} {p R : Nat} {w w1 : World} (h : K_At n0 n1 n2 n3 n4 p R w w1) : K_At n0 n1 n2 n3 n4 p R w w1.drew := KL.draws 1 h
theorem K_At.alloc {n0 n1 n2 n3 n4 : Int} {p R : Nat} {w w1 : World} (o : Obj) (h : K_At n0 n1 n2 n3 n4 p R w w1) : K_At n0 n1 n2 n3 n4 p R w (w1.alloc o) := KL.alloc o h
theorem K_At.set {n0 n1 n2 n3 n4 : Int} {p R : Nat} {w w1 : World} (h : K_At n0 n1 n2 n3 n4 p R w w1) (b i : Nat) (v : Value) (hb : b ≠ p ∧ w.heap.size ≤ b) : K_At n0 n1 n2 n3 n4 p R w (w1.setCell ⟨b, i, none⟩ v) :=
  KL.set h b i v (by intro x hx; simp only [List.mem_cons, List.not_mem_nil, or_false] at hx; rcases hx with rfl | rfl | rfl | rfl | rfl <;> simp only [] <;> omega) (by omega)
theorem K_At.bel {n0 n1 n2 n3 n4 : Int} {p R : Nat} {w w1 : World} (h : K_At n0 n1 n2 n3 n4 p R w w1) : Below w.heap.size w w1 := KL.bel h
theorem K_At.cells {n0 n1 n2 n3 n4 : Int} {p R : Nat} {w w' : World} (h : K_At n0 n1 n2 n3 n4 p R w w') : w'.cell? ⟨p, 0, none⟩ = some (.int .i64 n0) ∧ w'.cell? ⟨p, 1, none⟩ = some (.int .i64 n1) ∧ w'.cell? ⟨p, 2, none⟩ = some (.int .i64 n2) ∧ w'.cell? ⟨p, 3, none⟩ = some (.int .i64 n3) ∧ w'.cell? ⟨p, 4, none⟩ = some (.int .i64 n4) ∧ w'.cell? ⟨R, 0, none⟩ = some (cv w' R 0) ∧ w'.frozen? ⟨R, 0, none⟩ = false ∧ w'.cell? ⟨R, 1, none⟩ = some (cv w' R 1) ∧ w'.frozen? ⟨R, 1, none⟩ = false ∧ w'.cell? ⟨R, 2, none⟩ = some (cv w' R 2) ∧ w'.frozen? ⟨R, 2, none⟩ = false ∧ w'.cell? ⟨R, 3, none⟩ = some (cv w' R 3) ∧ w'.frozen? ⟨R, 3, none⟩ = false := ⟨h.c (p, 0, .int .i64 n0) (by simp), h.c (p, 1, .int .i64 n1) (by simp), h.c (p, 2, .int .i64 n2) (by simp), h.c (p, 3, .int .i64 n3) (by simp), h.c (p, 4, .int .i64 n4) (by simp), h.d (R, 0) (by simp), h.f (R, 0) (by simp), h.d (R, 1) (by simp), h.f (R, 1) (by simp), h.d (R, 2) (by simp), h.f (R, 2) (by simp), h.d (R, 3) (by simp), h.f (R, 3) (by simp)⟩
theorem K_At.zs {n0 n1 n2 n3 n4 : Int} {p R : Nat} {w w' : World} (h : K_At n0 n1 n2 n3 n4 p R w w') : p < w'.heap.size ∧ R < w'.heap.size ∧ True := ⟨KL.z h (x := (p, 0, .int .i64 n0)) (by simp), KL.zf h (x := (R, 0)) (by simp), trivial⟩
theorem K_At.ks {n0 n1 n2 n3 n4 : Int} {p R : Nat} {w w' : World} (h : K_At n0 n1 n2 n3 n4 p R w w') : (w'.cell? ⟨p, 0, none⟩ = some (.int .i64 n0) ∧ w'.cell? ⟨p, 1, none⟩ = some (.int .i64 n1) ∧ w'.cell? ⟨p, 2, none⟩ = some (.int .i64 n2) ∧ w'.cell? ⟨p, 3, none⟩ = some (.int .i64 n3) ∧ w'.cell? ⟨p, 4, none⟩ = some (.int .i64 n4) ∧ w'.cell? ⟨R, 0, none⟩ = some (cv w' R 0) ∧ w'.frozen? ⟨R, 0, none⟩ = false ∧ w'.cell? ⟨R, 1, none⟩ = some (cv w' R 1) ∧ w'.frozen? ⟨R, 1, none⟩ = false ∧ w'.cell? ⟨R, 2, none⟩ = some (cv w' R 2) ∧ w'.frozen? ⟨R, 2, none⟩ = false ∧ w'.cell? ⟨R, 3, none⟩ = some (cv w' R 3) ∧ w'.frozen? ⟨R, 3, none⟩ = false) ∧ K_At n0 n1 n2 n3 n4 p R w w' := ⟨h.cells, h⟩
set_option maxHeartbeats 1600000 in
theorem acceptTurn_err (n0 n1 n2 n3 d : Int) (w : World) (h : chkQ n0 n1 n2 n3 d ≠ 0) :
    Calls Try.prog 102 #[.agg #[.int .i64 n0, .int .i64 n1, .int .i64 n2, .int .i64 n3, .int .i64 d]] w fun e w' => e = .returned (.tuple #[.agg #[.int .i64 0, .int .i64 0, .int .i64 0, .int .i64 0], .int .i64 (chkQ n0 n1 n2 n3 d)]) ∧ Below w.heap.size w w' := by
  have CQ := Lib.hid (fun W => CheckQuat_any n0 n1 n2 n3 d W)
  have t : (chkQ n0 n1 n2 n3 d != 0) = true := by rw [bne_iff_ne]; exact h
  generalize chkQ n0 n1 n2 n3 d = e1 at *
  clear h
  go_enter Try.func102, Try.ntmps102
  go_wp2_with fail
  refine (CQ.out _).mono ?_
  rintro e w1 ⟨rfl, hb⟩
  have hK : K_At n0 n1 n2 n3 d w.heap.size (w.heap.size + 1) w w1 := K_At.below hb ⟨by simp [go_sem], by simp [go_sem], by simp [go_sem], by (repeat (first | (with_reducible exact Below.refl _ _) | (with_reducible exact HB.out) | (with_reducible refine below_draws ?_ _) | (with_reducible refine Below.alloc ?_ (by go_size) _) | (with_reducible refine Below.setCell ?_ (by go_size) _) | (with_reducible refine Below.alloc ?_ (by simp <;> omega) _) | (with_reducible refine Below.setCell ?_ (by simp <;> omega) _)))⟩
  clear hb
  obtain ⟨c0_, c1_, c2_, c3_, c4_, d0_, f0_, d1_, f1_, d2_, f2_, d3_, f3_⟩ := K_At.cells hK; obtain ⟨z0_, z1_, -⟩ := K_At.zs hK; have HK := Lib.hid hK; clear hK
  have HB := Lib.hid (K_At.bel HK.out)
  go_wp2
  exact bodyPost_ret (v := .tuple #[.agg #[.int .i64 0, .int .i64 0, .int .i64 0, .int .i64 0], .int .i64 e1]) (by simp [results, Try.results102, go_sem, c0_, c1_, c2_, c3_, c4_, d0_, f0_, d1_, f1_, d2_, f2_, d3_, f3_, z0_, z1_]) rfl ⟨rfl, by (repeat (first | (with_reducible exact Below.refl _ _) | (with_reducible exact HB.out) | (with_reducible refine below_draws ?_ _) | (with_reducible refine Below.alloc ?_ (by go_size) _) | (with_reducible refine Below.setCell ?_ (by go_size) _) | (with_reducible refine Below.alloc ?_ (by simp <;> omega) _) | (with_reducible refine Below.setCell ?_ (by simp <;> omega) _)))⟩
/-- what a walk keeps: cells, and that nothing that was there has turned -/
def K_Au (n0 n1 n2 n3 : Int) (s R : Nat) (w w' : World) : Prop := KL w [(s, 0, .int .i64 n0), (s, 1, .int .i64 n1), (s, 2, .int .i64 n2), (s, 3, .int .i64 n3)] [(R, 0), (R, 1), (R, 2), (R, 3)] w'
theorem K_Au.below {n0 n1 n2 n3 : Int} {s R : Nat} {w w1 w2 : World} (hb : Below w1.heap.size w1 w2) (h : K_Au n0 n1 n2 n3 s R w w1) : K_Au n0 n1 n2 n3 s R w w2 := KL.below hb h
theorem K_Au.draws {n0 n1 n2 n3 : Int} {s R : Nat} {w w1 : World} (n : Nat) (h : K_Au n0 n1 n2 n3 s R w w1) : K_Au n0 n1 n2 n3 s R w (w1.drewN n) := KL.draws n h
theorem K_Au.drew {n0 n1 n2 n3 : Int} {s R : Nat} {w w1 : World} (h : K_Au n0 n1 n2 n3 s R w w1) : K_Au n0 n1 n2 n3 s R w w1.drew := KL.draws 1 h
theorem K_Au.alloc {n0 n1 n2 n3 : Int} {s R : Nat} {w w1 : World} (o : Obj) (h : K_Au n0 n1 n2 n3 s R w w1) : K_Au n0 n1 n2 n3 s R w (w1.alloc o) := KL.alloc o h
theorem K_Au.set {n0 n1 n2 n3 : Int} {s R : Nat} {w w1 : World} (h : K_Au n0 n1 n2 n3 s R w w1) (b i : Nat) (v : Value) (hb : b ≠ s ∧ w.heap.size ≤ b) : K_Au n0 n1 n2 n3 s R w (w1.setCell ⟨b, i, none⟩ v) :=
  KL.set h b i v (by intro x hx; simp only [List.mem_cons, List.not_mem_nil, or_false] at hx; rcases hx with rfl | rfl | rfl | rfl <;> simp only [] <;> omega) (by omega)
theorem K_Au.bel {n0 n1 n2 n3 : Int} {s R : Nat} {w w1 : World} (h : K_Au n0 n1 n2 n3 s R w w1) : Below w.heap.size w w1 := KL.bel h
theorem K_Au.cells {n0 n1 n2 n3 : Int} {s R : Nat} {w w' : World} (h : K_Au n0 n1 n2 n3 s R w w') : w'.cell? ⟨s, 0, none⟩ = some (.int .i64 n0) ∧ w'.cell? ⟨s, 1, none⟩ = some (.int .i64 n1) ∧ w'.cell? ⟨s, 2, none⟩ = some (.int .i64 n2) ∧ w'.cell? ⟨s, 3, none⟩ = some (.int .i64 n3) ∧ w'.cell? ⟨R, 0, none⟩ = some (cv w' R 0) ∧ w'.frozen? ⟨R, 0, none⟩ = false ∧ w'.cell? ⟨R, 1, none⟩ = some (cv w' R 1) ∧ w'.frozen? ⟨R, 1, none⟩ = false ∧ w'.cell? ⟨R, 2, none⟩ = some (cv w' R 2) ∧ w'.frozen? ⟨R, 2, none⟩ = false ∧ w'.cell? ⟨R, 3, none⟩ = some (cv w' R 3) ∧ w'.frozen? ⟨R, 3, none⟩ = false := ⟨h.c (s, 0, .int .i64 n0) (by simp), h.c (s, 1, .int .i64 n1) (by simp), h.c (s, 2, .int .i64 n2) (by simp), h.c (s, 3, .int .i64 n3) (by simp), h.d (R, 0) (by simp), h.f (R, 0) (by simp), h.d (R, 1) (by simp), h.f (R, 1) (by simp), h.d (R, 2) (by simp), h.f (R, 2) (by simp), h.d (R, 3) (by simp), h.f (R, 3) (by simp)⟩
theorem K_Au.zs {n0 n1 n2 n3 : Int} {s R : Nat} {w w' : World} (h : K_Au n0 n1 n2 n3 s R w w') : s < w'.heap.size ∧ R < w'.heap.size ∧ True := ⟨KL.z h (x := (s, 0, .int .i64 n0)) (by simp), KL.zf h (x := (R, 0)) (by simp), trivial⟩
theorem K_Au.ks {n0 n1 n2 n3 : Int} {s R : Nat} {w w' : World} (h : K_Au n0 n1 n2 n3 s R w w') : (w'.cell? ⟨s, 0, none⟩ = some (.int .i64 n0) ∧ w'.cell? ⟨s, 1, none⟩ = some (.int .i64 n1) ∧ w'.cell? ⟨s, 2, none⟩ = some (.int .i64 n2) ∧ w'.cell? ⟨s, 3, none⟩ = some (.int .i64 n3) ∧ w'.cell? ⟨R, 0, none⟩ = some (cv w' R 0) ∧ w'.frozen? ⟨R, 0, none⟩ = false ∧ w'.cell? ⟨R, 1, none⟩ = some (cv w' R 1) ∧ w'.frozen? ⟨R, 1, none⟩ = false ∧ w'.cell? ⟨R, 2, none⟩ = some (cv w' R 2) ∧ w'.frozen? ⟨R, 2, none⟩ = false ∧ w'.cell? ⟨R, 3, none⟩ = some (cv w' R 3) ∧ w'.frozen? ⟨R, 3, none⟩ = false) ∧ K_Au n0 n1 n2 n3 s R w w' := ⟨h.cells, h⟩
set_option maxHeartbeats 1600000 in
theorem acceptTurn_zero (n0 n1 n2 n3 d : Int) (w : World) (h : chkQ n0 n1 n2 n3 d = 0) (hz : zeroB ⟨n0, n1, n2, n3⟩ = true) :
    Calls Try.prog 102 #[.agg #[.int .i64 n0, .int .i64 n1, .int .i64 n2, .int .i64 n3, .int .i64 d]] w fun e w' => e = .returned (.tuple #[.agg #[.int .i64 0, .int .i64 0, .int .i64 0, .int .i64 0], .int .i64 10]) ∧ Below w.heap.size w w' := by
  have CQ := Lib.hid (fun W => CheckQuat_any n0 n1 n2 n3 d W)
  have FO := Lib.hid (fun W => fourOf_any n0 n1 n2 n3 d W)
  rw [h] at CQ
  have eq : ∀ W : World, (Op.equalIn 10000 95 (.agg #[.int .i64 n0, .int .i64 n1, .int .i64 n2, .int .i64 n3]) (.agg #[.int .i64 0, .int .i64 0, .int .i64 0, .int .i64 0])).run Try.prog W = .ok true W := fun W => by rw [Try.eqF]; exact congrArg (fun b => Result.ok b W) hz
  have EQ := Lib.hid eq
  clear h hz eq
  go_enter Try.func102, Try.ntmps102
  go_wp2_with fail
  refine (CQ.out _).mono ?_
  rintro e w1 ⟨rfl, hb⟩
  have hK : K_At n0 n1 n2 n3 d w.heap.size (w.heap.size + 1) w w1 := K_At.below hb ⟨by simp [go_sem], by simp [go_sem], by simp [go_sem], by (repeat (first | (with_reducible exact Below.refl _ _) | (with_reducible exact HB.out) | (with_reducible refine below_draws ?_ _) | (with_reducible refine Below.alloc ?_ (by go_size) _) | (with_reducible refine Below.setCell ?_ (by go_size) _) | (with_reducible refine Below.alloc ?_ (by simp <;> omega) _) | (with_reducible refine Below.setCell ?_ (by simp <;> omega) _)))⟩
  clear hb
  obtain ⟨c0_, c1_, c2_, c3_, c4_, d0_, f0_, d1_, f1_, d2_, f2_, d3_, f3_⟩ := K_At.cells hK; obtain ⟨z0_, z1_, -⟩ := K_At.zs hK; have HK := Lib.hid hK; clear hK
  go_wp2_with fail
  refine (FO.out _).mono ?_
  rintro e w2 ⟨rfl, hb⟩
  clear c0_ c1_ c2_ c3_ c4_ d0_ f0_ d1_ f1_ d2_ f2_ d3_ f3_ z0_ z1_
  have hK0 : K_R4 (w.heap.size + 1) w w2 := KL.sub (K_At.below hb HK.out) (fun x hx => by simp at hx) (fun x hx => hx)
  have hK : K_Au n0 n1 n2 n3 w2.heap.size (w.heap.size + 1) w _ := KL.push4 hK0 n0 n1 n2 n3 95 _ rfl
  clear hb HK hK0
  have eq := EQ.out
  obtain ⟨c0_, c1_, c2_, c3_, d0_, f0_, d1_, f1_, d2_, f2_, d3_, f3_⟩ := K_Au.cells hK; obtain ⟨z0_, z1_, -⟩ := K_Au.zs hK; have HK := Lib.hid hK; clear hK
  have HB := Lib.hid (K_Au.bel HK.out)
  go_wp2
  exact bodyPost_ret (v := .tuple #[.agg #[.int .i64 0, .int .i64 0, .int .i64 0, .int .i64 0], .int .i64 10]) (by simp [results, Try.results102, go_sem, c0_, c1_, c2_, c3_, d0_, f0_, d1_, f1_, d2_, f2_, d3_, f3_, z0_, z1_]) rfl ⟨rfl, by (repeat (first | (with_reducible exact Below.refl _ _) | (with_reducible exact HB.out) | (with_reducible refine below_draws ?_ _) | (with_reducible refine Below.alloc ?_ (by go_size) _) | (with_reducible refine Below.setCell ?_ (by go_size) _) | (with_reducible refine Below.alloc ?_ (by simp <;> omega) _) | (with_reducible refine Below.setCell ?_ (by simp <;> omega) _)))⟩
theorem n_bd {n0 n1 n2 n3 d : Int} (h : chkQ n0 n1 n2 n3 d = 0) : HB 1000000 ⟨n0, n1, n2, n3⟩ ∧ 1 ≤ d ∧ d ≤ 1000000 := by
  obtain ⟨q0, q1, q2, q3, q4⟩ := qin_bd (chkQ_ok h)
  exact ⟨⟨by simp only; omega, by simp only; omega, by simp only; omega, by simp only; omega⟩, by omega, by omega⟩
set_option maxHeartbeats 1600000 in
theorem acceptTurn_ok (n0 n1 n2 n3 d : Int) (w : World) (h : chkQ n0 n1 n2 n3 d = 0) (hz : zeroB ⟨n0, n1, n2, n3⟩ = false) :
    Calls Try.prog 102 #[.agg #[.int .i64 n0, .int .i64 n1, .int .i64 n2, .int .i64 n3, .int .i64 d]] w fun e w' => e = .returned (.tuple #[.agg #[.int .i64 (trn ⟨n0, n1, n2, n3⟩).w, .int .i64 (trn ⟨n0, n1, n2, n3⟩).x, .int .i64 (trn ⟨n0, n1, n2, n3⟩).y, .int .i64 (trn ⟨n0, n1, n2, n3⟩).z], .int .i64 0]) ∧ Below w.heap.size w w' := by
  have CQ := Lib.hid (fun W => CheckQuat_any n0 n1 n2 n3 d W)
  have FO := Lib.hid (fun W => fourOf_any n0 n1 n2 n3 d W)
  have TO := Lib.hid (fun W => turnOf_any ⟨n0, n1, n2, n3⟩ W (by obtain ⟨⟨a, b, c, e⟩, -⟩ := n_bd h; exact ⟨by simp only at a ⊢; omega, by simp only at b ⊢; omega, by simp only at c ⊢; omega, by simp only at e ⊢; omega⟩) (fun e => by rw [e] at hz; cases hz))
  rw [h] at CQ
  have eq : ∀ W : World, (Op.equalIn 10000 95 (.agg #[.int .i64 n0, .int .i64 n1, .int .i64 n2, .int .i64 n3]) (.agg #[.int .i64 0, .int .i64 0, .int .i64 0, .int .i64 0])).run Try.prog W = .ok false W := fun W => by rw [Try.eqF]; exact congrArg (fun b => Result.ok b W) hz
  have EQ := Lib.hid eq
  clear h hz eq
  generalize trn ⟨n0, n1, n2, n3⟩ = t at *
  obtain ⟨t0, t1, t2, t3⟩ := t
  simp only [] at TO ⊢
  go_enter Try.func102, Try.ntmps102
  go_wp2_with fail
  refine (CQ.out _).mono ?_
  rintro e w1 ⟨rfl, hb⟩
  have hK : K_At n0 n1 n2 n3 d w.heap.size (w.heap.size + 1) w w1 := K_At.below hb ⟨by simp [go_sem], by simp [go_sem], by simp [go_sem], by (repeat (first | (with_reducible exact Below.refl _ _) | (with_reducible exact HB.out) | (with_reducible refine below_draws ?_ _) | (with_reducible refine Below.alloc ?_ (by go_size) _) | (with_reducible refine Below.setCell ?_ (by go_size) _) | (with_reducible refine Below.alloc ?_ (by simp <;> omega) _) | (with_reducible refine Below.setCell ?_ (by simp <;> omega) _)))⟩
  clear hb
  obtain ⟨c0_, c1_, c2_, c3_, c4_, d0_, f0_, d1_, f1_, d2_, f2_, d3_, f3_⟩ := K_At.cells hK; obtain ⟨z0_, z1_, -⟩ := K_At.zs hK; have HK := Lib.hid hK; clear hK
  go_wp2_with fail
  refine (FO.out _).mono ?_
  rintro e w2 ⟨rfl, hb⟩
  clear c0_ c1_ c2_ c3_ c4_ d0_ f0_ d1_ f1_ d2_ f2_ d3_ f3_ z0_ z1_
  have hK0 : K_R4 (w.heap.size + 1) w w2 := KL.sub (K_At.below hb HK.out) (fun x hx => by simp at hx) (fun x hx => hx)
  have hK : K_Au n0 n1 n2 n3 w2.heap.size (w.heap.size + 1) w _ := KL.push4 hK0 n0 n1 n2 n3 95 _ rfl
  clear hb HK hK0
  have eq := EQ.out
  obtain ⟨c0_, c1_, c2_, c3_, d0_, f0_, d1_, f1_, d2_, f2_, d3_, f3_⟩ := K_Au.cells hK; obtain ⟨z0_, z1_, -⟩ := K_Au.zs hK; have HK := Lib.hid hK; clear hK
  go_wp2_with fail
  refine (TO.out _).mono ?_
  rintro e w3 ⟨rfl, hb⟩
  clear c0_ c1_ c2_ c3_ d0_ f0_ d1_ f1_ d2_ f2_ d3_ f3_ z0_ z1_
  clear eq
  have hK := K_Au.below hb HK.out
  clear hb HK
  obtain ⟨c0_, c1_, c2_, c3_, d0_, f0_, d1_, f1_, d2_, f2_, d3_, f3_⟩ := K_Au.cells hK; obtain ⟨z0_, z1_, -⟩ := K_Au.zs hK; have HK := Lib.hid hK; clear hK
  have HB := Lib.hid (K_Au.bel HK.out)
  go_wp2
  exact bodyPost_ret (v := .tuple #[.agg #[.int .i64 t0, .int .i64 t1, .int .i64 t2, .int .i64 t3], .int .i64 0]) (by simp [results, Try.results102, go_sem, c0_, c1_, c2_, c3_, d0_, f0_, d1_, f1_, d2_, f2_, d3_, f3_, z0_, z1_]) rfl ⟨rfl, by (repeat (first | (with_reducible exact Below.refl _ _) | (with_reducible exact HB.out) | (with_reducible refine below_draws ?_ _) | (with_reducible refine Below.alloc ?_ (by go_size) _) | (with_reducible refine Below.setCell ?_ (by go_size) _) | (with_reducible refine Below.alloc ?_ (by simp <;> omega) _) | (with_reducible refine Below.setCell ?_ (by simp <;> omega) _)))⟩
end Go.Proofs.Yteiflfmpkfhkoaa.Rt
