/-
  WALK: the reference's Isomorphism.
-/
import Derived.Test.YtgbnmnkgelklbaaDoorIs7
import Derived.Test.YtgbnmnkgelklbaaDoorIs4
namespace Go.Proofs.YtgbnmnkgelklbaaDoor.Iso
open Go.RowKit
open Alm Al
set_option linter.unusedVariables false
set_option linter.unusedSimpArgs false
set_option maxRecDepth 100000
set_option maxHeartbeats 3200000 in
theorem rIsm_none (A B C D : Int) (w : World) (hA : chkA A B = 0) (hC : chkA C D = 0) (hI : isoB A B C D = false) :
    Calls Tryd.prog 17 #[.agg #[.int .i64 A, .int .i64 B], .agg #[.int .i64 C, .int .i64 D]] w fun e w' => e = .returned (.tuple #[.agg #[.int .i64 0, .int .i64 0, .int .i64 0, .int .i64 0, .int .i64 0], .agg #[.int .i64 0, .int .i64 0, .int .i64 0, .int .i64 0, .int .i64 0], .int .i64 12]) ∧ Below w.heap.size w w' := by
  have II := Lib.hid (fun W => rIsomorphic_any A B C D W hA hC)
  rw [hI] at II
  clear hA hC hI
  go_enter Tryd.func17, Tryd.ntmps17
  go_wp2_with fail
  refine (II.out _).mono ?_
  rintro e w3 ⟨rfl, hb⟩
  have hK : K_Sr A B C D w.heap.size (w.heap.size + 1) (w.heap.size + 2) (w.heap.size + 3) w w3 := K_Sr.below hb ⟨by simp [go_sem], by simp [go_sem], by simp [go_sem], by (repeat (first | (with_reducible exact Below.refl _ _) | (with_reducible exact HB.out) | (with_reducible refine below_draws ?_ _) | (with_reducible refine Below.alloc ?_ (by go_size) _) | (with_reducible refine Below.setCell ?_ (by go_size) _) | (with_reducible refine Below.alloc ?_ (by simp <;> omega) _) | (with_reducible refine Below.setCell ?_ (by simp <;> omega) _)))⟩
  obtain ⟨c0_, c1_, c2_, c3_, d0_, f0_, d1_, f1_, d2_, f2_, d3_, f3_, d4_, f4_, d5_, f5_, d6_, f6_, d7_, f7_, d8_, f8_, d9_, f9_⟩ := K_Sr.cells hK
  have HB := Lib.hid (K_Sr.bel hK)
  clear hK hb
  go_wp2
  exact bodyPost_ret (v := .tuple #[.agg #[.int .i64 0, .int .i64 0, .int .i64 0, .int .i64 0, .int .i64 0], .agg #[.int .i64 0, .int .i64 0, .int .i64 0, .int .i64 0, .int .i64 0], .int .i64 12]) (by simp [results, Tryd.results17, go_sem, c0_, c1_, c2_, c3_, d0_, f0_, d1_, f1_, d2_, f2_, d3_, f3_, d4_, f4_, d5_, f5_, d6_, f6_, d7_, f7_, d8_, f8_, d9_, f9_]) rfl ⟨rfl, by (repeat (first | (with_reducible exact Below.refl _ _) | (with_reducible exact HB.out) | (with_reducible refine below_draws ?_ _) | (with_reducible refine Below.alloc ?_ (by go_size) _) | (with_reducible refine Below.setCell ?_ (by go_size) _) | (with_reducible refine Below.alloc ?_ (by simp <;> omega) _) | (with_reducible refine Below.setCell ?_ (by simp <;> omega) _)))⟩
/-- what a walk keeps: cells, and that nothing that was there has turned -/
def K_St (A B C D p0 p1 p2 p3 p4 q0 q1 q2 q3 q4 : Int) (b1 b2 R S bp op bq oq : Nat) (w w' : World) : Prop := KL w [(b1, 0, .int .i64 A), (b1, 1, .int .i64 B), (b2, 0, .int .i64 C), (b2, 1, .int .i64 D), (bp, op, .int .i64 p0), (bp, op + 1, .int .i64 p1), (bp, op + 2, .int .i64 p2), (bp, op + 3, .int .i64 p3), (bp, op + 4, .int .i64 p4), (bq, oq, .int .i64 q0), (bq, oq + 1, .int .i64 q1), (bq, oq + 2, .int .i64 q2), (bq, oq + 3, .int .i64 q3), (bq, oq + 4, .int .i64 q4)] [(R, 0), (R, 1), (R, 2), (R, 3), (R, 4), (S, 0), (S, 1), (S, 2), (S, 3), (S, 4)] w'
theorem K_St.below {A B C D p0 p1 p2 p3 p4 q0 q1 q2 q3 q4 : Int} {b1 b2 R S bp op bq oq : Nat} {w w1 w2 : World} (hb : Below w1.heap.size w1 w2) (h : K_St A B C D p0 p1 p2 p3 p4 q0 q1 q2 q3 q4 b1 b2 R S bp op bq oq w w1) : K_St A B C D p0 p1 p2 p3 p4 q0 q1 q2 q3 q4 b1 b2 R S bp op bq oq w w2 := KL.below hb h
theorem K_St.draws {A B C D p0 p1 p2 p3 p4 q0 q1 q2 q3 q4 : Int} {b1 b2 R S bp op bq oq : Nat} {w w1 : World} (n : Nat) (h : K_St A B C D p0 p1 p2 p3 p4 q0 q1 q2 q3 q4 b1 b2 R S bp op bq oq w w1) : K_St A B C D p0 p1 p2 p3 p4 q0 q1 q2 q3 q4 b1 b2 R S bp op bq oq w (w1.drewN n) := KL.draws n h
theorem K_St.drew {A B C D p0 p1 p2 p3 p4 q0 q1 q2 q3 q4 : Int} {b1 b2 R S bp op bq oq : Nat} {w w1 : World} (h : K_St A B C D p0 p1 p2 p3 p4 q0 q1 q2 q3 q4 b1 b2 R S bp op bq oq w w1) : K_St A B C D p0 p1 p2 p3 p4 q0 q1 q2 q3 q4 b1 b2 R S bp op bq oq w w1.drew := KL.draws 1 h
theorem K_St.alloc {A B C D p0 p1 p2 p3 p4 q0 q1 q2 q3 q4 : Int} {b1 b2 R S bp op bq oq : Nat} {w w1 : World} (o : Obj) (h : K_St A B C D p0 p1 p2 p3 p4 q0 q1 q2 q3 q4 b1 b2 R S bp op bq oq w w1) : K_St A B C D p0 p1 p2 p3 p4 q0 q1 q2 q3 q4 b1 b2 R S bp op bq oq w (w1.alloc o) := KL.alloc o h
theorem K_St.set {A B C D p0 p1 p2 p3 p4 q0 q1 q2 q3 q4 : Int} {b1 b2 R S bp op bq oq : Nat} {w w1 : World} (h : K_St A B C D p0 p1 p2 p3 p4 q0 q1 q2 q3 q4 b1 b2 R S bp op bq oq w w1) (b i : Nat) (v : Value) (hb : b ≠ b1 ∧ b ≠ b2 ∧ b ≠ bp ∧ b ≠ bq ∧ w.heap.size ≤ b) : K_St A B C D p0 p1 p2 p3 p4 q0 q1 q2 q3 q4 b1 b2 R S bp op bq oq w (w1.setCell ⟨b, i, none⟩ v) :=
  KL.set h b i v (by intro x hx; simp only [List.mem_cons, List.not_mem_nil, or_false] at hx; rcases hx with rfl | rfl | rfl | rfl | rfl | rfl | rfl | rfl | rfl | rfl | rfl | rfl | rfl | rfl <;> simp only [] <;> omega) (by omega)
theorem K_St.bel {A B C D p0 p1 p2 p3 p4 q0 q1 q2 q3 q4 : Int} {b1 b2 R S bp op bq oq : Nat} {w w1 : World} (h : K_St A B C D p0 p1 p2 p3 p4 q0 q1 q2 q3 q4 b1 b2 R S bp op bq oq w w1) : Below w.heap.size w w1 := KL.bel h
theorem K_St.cells {A B C D p0 p1 p2 p3 p4 q0 q1 q2 q3 q4 : Int} {b1 b2 R S bp op bq oq : Nat} {w w' : World} (h : K_St A B C D p0 p1 p2 p3 p4 q0 q1 q2 q3 q4 b1 b2 R S bp op bq oq w w') : w'.cell? ⟨b1, 0, none⟩ = some (.int .i64 A) ∧ w'.cell? ⟨b1, 1, none⟩ = some (.int .i64 B) ∧ w'.cell? ⟨b2, 0, none⟩ = some (.int .i64 C) ∧ w'.cell? ⟨b2, 1, none⟩ = some (.int .i64 D) ∧ w'.cell? ⟨bp, op, none⟩ = some (.int .i64 p0) ∧ w'.cell? ⟨bp, op + 1, none⟩ = some (.int .i64 p1) ∧ w'.cell? ⟨bp, op + 2, none⟩ = some (.int .i64 p2) ∧ w'.cell? ⟨bp, op + 3, none⟩ = some (.int .i64 p3) ∧ w'.cell? ⟨bp, op + 4, none⟩ = some (.int .i64 p4) ∧ w'.cell? ⟨bq, oq, none⟩ = some (.int .i64 q0) ∧ w'.cell? ⟨bq, oq + 1, none⟩ = some (.int .i64 q1) ∧ w'.cell? ⟨bq, oq + 2, none⟩ = some (.int .i64 q2) ∧ w'.cell? ⟨bq, oq + 3, none⟩ = some (.int .i64 q3) ∧ w'.cell? ⟨bq, oq + 4, none⟩ = some (.int .i64 q4) ∧ w'.cell? ⟨R, 0, none⟩ = some (cv w' R 0) ∧ w'.frozen? ⟨R, 0, none⟩ = false ∧ w'.cell? ⟨R, 1, none⟩ = some (cv w' R 1) ∧ w'.frozen? ⟨R, 1, none⟩ = false ∧ w'.cell? ⟨R, 2, none⟩ = some (cv w' R 2) ∧ w'.frozen? ⟨R, 2, none⟩ = false ∧ w'.cell? ⟨R, 3, none⟩ = some (cv w' R 3) ∧ w'.frozen? ⟨R, 3, none⟩ = false ∧ w'.cell? ⟨R, 4, none⟩ = some (cv w' R 4) ∧ w'.frozen? ⟨R, 4, none⟩ = false ∧ w'.cell? ⟨S, 0, none⟩ = some (cv w' S 0) ∧ w'.frozen? ⟨S, 0, none⟩ = false ∧ w'.cell? ⟨S, 1, none⟩ = some (cv w' S 1) ∧ w'.frozen? ⟨S, 1, none⟩ = false ∧ w'.cell? ⟨S, 2, none⟩ = some (cv w' S 2) ∧ w'.frozen? ⟨S, 2, none⟩ = false ∧ w'.cell? ⟨S, 3, none⟩ = some (cv w' S 3) ∧ w'.frozen? ⟨S, 3, none⟩ = false ∧ w'.cell? ⟨S, 4, none⟩ = some (cv w' S 4) ∧ w'.frozen? ⟨S, 4, none⟩ = false := ⟨h.c (b1, 0, .int .i64 A) (by simp), h.c (b1, 1, .int .i64 B) (by simp), h.c (b2, 0, .int .i64 C) (by simp), h.c (b2, 1, .int .i64 D) (by simp), h.c (bp, op, .int .i64 p0) (by simp), h.c (bp, op + 1, .int .i64 p1) (by simp), h.c (bp, op + 2, .int .i64 p2) (by simp), h.c (bp, op + 3, .int .i64 p3) (by simp), h.c (bp, op + 4, .int .i64 p4) (by simp), h.c (bq, oq, .int .i64 q0) (by simp), h.c (bq, oq + 1, .int .i64 q1) (by simp), h.c (bq, oq + 2, .int .i64 q2) (by simp), h.c (bq, oq + 3, .int .i64 q3) (by simp), h.c (bq, oq + 4, .int .i64 q4) (by simp), h.d (R, 0) (by simp), h.f (R, 0) (by simp), h.d (R, 1) (by simp), h.f (R, 1) (by simp), h.d (R, 2) (by simp), h.f (R, 2) (by simp), h.d (R, 3) (by simp), h.f (R, 3) (by simp), h.d (R, 4) (by simp), h.f (R, 4) (by simp), h.d (S, 0) (by simp), h.f (S, 0) (by simp), h.d (S, 1) (by simp), h.f (S, 1) (by simp), h.d (S, 2) (by simp), h.f (S, 2) (by simp), h.d (S, 3) (by simp), h.f (S, 3) (by simp), h.d (S, 4) (by simp), h.f (S, 4) (by simp)⟩
theorem K_St.zs {A B C D p0 p1 p2 p3 p4 q0 q1 q2 q3 q4 : Int} {b1 b2 R S bp op bq oq : Nat} {w w' : World} (h : K_St A B C D p0 p1 p2 p3 p4 q0 q1 q2 q3 q4 b1 b2 R S bp op bq oq w w') : b1 < w'.heap.size ∧ b2 < w'.heap.size ∧ bp < w'.heap.size ∧ bq < w'.heap.size ∧ R < w'.heap.size ∧ S < w'.heap.size ∧ True := ⟨KL.z h (x := (b1, 0, .int .i64 A)) (by simp), KL.z h (x := (b2, 0, .int .i64 C)) (by simp), KL.z h (x := (bp, op, .int .i64 p0)) (by simp), KL.z h (x := (bq, oq, .int .i64 q0)) (by simp), KL.zf h (x := (R, 0)) (by simp), KL.zf h (x := (S, 0)) (by simp), trivial⟩
theorem K_St.ks {A B C D p0 p1 p2 p3 p4 q0 q1 q2 q3 q4 : Int} {b1 b2 R S bp op bq oq : Nat} {w w' : World} (h : K_St A B C D p0 p1 p2 p3 p4 q0 q1 q2 q3 q4 b1 b2 R S bp op bq oq w w') : (w'.cell? ⟨b1, 0, none⟩ = some (.int .i64 A) ∧ w'.cell? ⟨b1, 1, none⟩ = some (.int .i64 B) ∧ w'.cell? ⟨b2, 0, none⟩ = some (.int .i64 C) ∧ w'.cell? ⟨b2, 1, none⟩ = some (.int .i64 D) ∧ w'.cell? ⟨bp, op, none⟩ = some (.int .i64 p0) ∧ w'.cell? ⟨bp, op + 1, none⟩ = some (.int .i64 p1) ∧ w'.cell? ⟨bp, op + 2, none⟩ = some (.int .i64 p2) ∧ w'.cell? ⟨bp, op + 3, none⟩ = some (.int .i64 p3) ∧ w'.cell? ⟨bp, op + 4, none⟩ = some (.int .i64 p4) ∧ w'.cell? ⟨bq, oq, none⟩ = some (.int .i64 q0) ∧ w'.cell? ⟨bq, oq + 1, none⟩ = some (.int .i64 q1) ∧ w'.cell? ⟨bq, oq + 2, none⟩ = some (.int .i64 q2) ∧ w'.cell? ⟨bq, oq + 3, none⟩ = some (.int .i64 q3) ∧ w'.cell? ⟨bq, oq + 4, none⟩ = some (.int .i64 q4) ∧ w'.cell? ⟨R, 0, none⟩ = some (cv w' R 0) ∧ w'.frozen? ⟨R, 0, none⟩ = false ∧ w'.cell? ⟨R, 1, none⟩ = some (cv w' R 1) ∧ w'.frozen? ⟨R, 1, none⟩ = false ∧ w'.cell? ⟨R, 2, none⟩ = some (cv w' R 2) ∧ w'.frozen? ⟨R, 2, none⟩ = false ∧ w'.cell? ⟨R, 3, none⟩ = some (cv w' R 3) ∧ w'.frozen? ⟨R, 3, none⟩ = false ∧ w'.cell? ⟨R, 4, none⟩ = some (cv w' R 4) ∧ w'.frozen? ⟨R, 4, none⟩ = false ∧ w'.cell? ⟨S, 0, none⟩ = some (cv w' S 0) ∧ w'.frozen? ⟨S, 0, none⟩ = false ∧ w'.cell? ⟨S, 1, none⟩ = some (cv w' S 1) ∧ w'.frozen? ⟨S, 1, none⟩ = false ∧ w'.cell? ⟨S, 2, none⟩ = some (cv w' S 2) ∧ w'.frozen? ⟨S, 2, none⟩ = false ∧ w'.cell? ⟨S, 3, none⟩ = some (cv w' S 3) ∧ w'.frozen? ⟨S, 3, none⟩ = false ∧ w'.cell? ⟨S, 4, none⟩ = some (cv w' S 4) ∧ w'.frozen? ⟨S, 4, none⟩ = false) ∧ K_St A B C D p0 p1 p2 p3 p4 q0 q1 q2 q3 q4 b1 b2 R S bp op bq oq w w' := ⟨h.cells, h⟩
set_option maxHeartbeats 8000000 in
theorem rIsm_ok (A B C D : Int) (w : World) (hA : chkA A B = 0) (hC : chkA C D = 0) (hI : isoB A B C D = true) :
    Calls Tryd.prog 17 #[.agg #[.int .i64 A, .int .i64 B], .agg #[.int .i64 C, .int .i64 D]] w fun e w' => e = .returned (IsV 21 (ff (tnB C D) (Dl (pf C D A) 2) (Dl (pf C D B) 2))) ∧ Below w.heap.size w w' := by
  have II := Lib.hid (fun W => rIsomorphic_any A B C D W hA hC)
  rw [hI] at II
  have bA := Bn_A hA
  have bC := Bn_A hC
  have P1 : Hid (∀ W, Calls Tryd.prog 36 #[.agg #[.int .i64 C, .int .i64 D], .int .i64 A] W fun e w' => ∃ Aa c, e = .returned (.slice Aa (Dl (pf C D A) 2).length c) ∧ LQ W.heap.size w' Aa c (Dl (pf C D A) 2) ∧ (c ≤ 9223372036854775807 ∧ (Dl (pf C D A) 2).length ≤ c) ∧ Below W.heap.size W w') := Lib.hid fun W => (rpure_any C D A W bC.1 bC.2 bA.1).mono fun e w' ⟨v, he, hown, hb⟩ => by
    obtain ⟨Aa, c, rfl, hL, hc, hlc⟩ := LQ.of hown
    exact ⟨Aa, c, he, hL, ⟨hc, hlc⟩, hb⟩
  have P2 : Hid (∀ W, Calls Tryd.prog 36 #[.agg #[.int .i64 C, .int .i64 D], .int .i64 B] W fun e w' => ∃ Aa c, e = .returned (.slice Aa (Dl (pf C D B) 2).length c) ∧ LQ W.heap.size w' Aa c (Dl (pf C D B) 2) ∧ (c ≤ 9223372036854775807 ∧ (Dl (pf C D B) 2).length ≤ c) ∧ Below W.heap.size W w') := Lib.hid fun W => (rpure_any C D B W bC.1 bC.2 bA.2).mono fun e w' ⟨v, he, hown, hb⟩ => by
    obtain ⟨Aa, c, rfl, hL, hc, hlc⟩ := LQ.of hown
    exact ⟨Aa, c, he, hL, ⟨hc, hlc⟩, hb⟩
  have S1 : Hid (∀ (x y : Q) (W : World), chkQ x.w x.x x.y x.z x.d = 0 → chkQ y.w y.x y.y y.z y.d = 0 → Calls Tryd.prog 37 #[.agg #[.int .i64 C, .int .i64 D], .agg #[.int .i64 (x).w, .int .i64 (x).x, .int .i64 (x).y, .int .i64 (x).z, .int .i64 (x).d], .agg #[.int .i64 (y).w, .int .i64 (y).x, .int .i64 (y).y, .int .i64 (y).z, .int .i64 (y).d]] W fun e w' => e = .returned (.bool (tnB C D x y)) ∧ Below W.heap.size W w') := Lib.hid (fun x y W hx hy => Turned_any C D x.w x.x x.y x.z x.d y.w y.x y.y y.z y.d W bC.1 bC.2 hx hy)
  have m1 : Hid (∀ q ∈ Dl (pf C D A) 2, chkQ q.w q.x q.y q.z q.d = 0) := Lib.hid fun q h => Dl_chk h
  have m2 : Hid (∀ q ∈ Dl (pf C D B) 2, chkQ q.w q.x q.y q.z q.d = 0) := Lib.hid fun q h => Dl_chk h
  have l1 := Dl_len (pf C D A) 2
  have l2 := Dl_len (pf C D B) 2
  clear hA hC hI bA bC
  generalize Dl (pf C D A) 2 = L1 at *
  generalize Dl (pf C D B) 2 = L2 at *
  go_enter Tryd.func17, Tryd.ntmps17
  go_wp2_with fail
  refine (II.out _).mono ?_
  rintro e w3 ⟨rfl, hb⟩
  have hK : K_Sr A B C D w.heap.size (w.heap.size + 1) (w.heap.size + 2) (w.heap.size + 3) w w3 := K_Sr.below hb ⟨by simp [go_sem], by simp [go_sem], by simp [go_sem], by (repeat (first | (with_reducible exact Below.refl _ _) | (with_reducible exact HB.out) | (with_reducible refine below_draws ?_ _) | (with_reducible refine Below.alloc ?_ (by go_size) _) | (with_reducible refine Below.setCell ?_ (by go_size) _) | (with_reducible refine Below.alloc ?_ (by simp <;> omega) _) | (with_reducible refine Below.setCell ?_ (by simp <;> omega) _)))⟩
  clear hb
  obtain ⟨c0_, c1_, c2_, c3_, d0_, f0_, d1_, f1_, d2_, f2_, d3_, f3_, d4_, f4_, d5_, f5_, d6_, f6_, d7_, f7_, d8_, f8_, d9_, f9_⟩ := K_Sr.cells hK; obtain ⟨z0_, z1_, z2_, z3_, -⟩ := K_Sr.zs hK; have HK := Lib.hid hK; clear hK
  go_wp2_with fail
  have hk := HK.out
  clear c0_ c1_ c2_ c3_ d0_ f0_ d1_ f1_ d2_ f2_ d3_ f3_ d4_ f4_ d5_ f5_ d6_ f6_ d7_ f7_ d8_ f8_ d9_ f9_ z0_ z1_ z2_ z3_
  clear HK
  have hz3 : w.heap.size + 3 < w3.heap.size := (K_Sr.zs hk).2.2.2.1
  go_region_held3 (fun w' => (w'.cell? ⟨w.heap.size, 0, none⟩ = some (.int .i64 A) ∧ w'.cell? ⟨w.heap.size, 1, none⟩ = some (.int .i64 B) ∧ w'.cell? ⟨(w.heap.size + 1), 0, none⟩ = some (.int .i64 C) ∧ w'.cell? ⟨(w.heap.size + 1), 1, none⟩ = some (.int .i64 D) ∧ w'.cell? ⟨(w.heap.size + 2), 0, none⟩ = some (cv w' ((w.heap.size + 2)) 0) ∧ w'.frozen? ⟨(w.heap.size + 2), 0, none⟩ = false ∧ w'.cell? ⟨(w.heap.size + 2), 1, none⟩ = some (cv w' ((w.heap.size + 2)) 1) ∧ w'.frozen? ⟨(w.heap.size + 2), 1, none⟩ = false ∧ w'.cell? ⟨(w.heap.size + 2), 2, none⟩ = some (cv w' ((w.heap.size + 2)) 2) ∧ w'.frozen? ⟨(w.heap.size + 2), 2, none⟩ = false ∧ w'.cell? ⟨(w.heap.size + 2), 3, none⟩ = some (cv w' ((w.heap.size + 2)) 3) ∧ w'.frozen? ⟨(w.heap.size + 2), 3, none⟩ = false ∧ w'.cell? ⟨(w.heap.size + 2), 4, none⟩ = some (cv w' ((w.heap.size + 2)) 4) ∧ w'.frozen? ⟨(w.heap.size + 2), 4, none⟩ = false ∧ w'.cell? ⟨(w.heap.size + 3), 0, none⟩ = some (cv w' ((w.heap.size + 3)) 0) ∧ w'.frozen? ⟨(w.heap.size + 3), 0, none⟩ = false ∧ w'.cell? ⟨(w.heap.size + 3), 1, none⟩ = some (cv w' ((w.heap.size + 3)) 1) ∧ w'.frozen? ⟨(w.heap.size + 3), 1, none⟩ = false ∧ w'.cell? ⟨(w.heap.size + 3), 2, none⟩ = some (cv w' ((w.heap.size + 3)) 2) ∧ w'.frozen? ⟨(w.heap.size + 3), 2, none⟩ = false ∧ w'.cell? ⟨(w.heap.size + 3), 3, none⟩ = some (cv w' ((w.heap.size + 3)) 3) ∧ w'.frozen? ⟨(w.heap.size + 3), 3, none⟩ = false ∧ w'.cell? ⟨(w.heap.size + 3), 4, none⟩ = some (cv w' ((w.heap.size + 3)) 4) ∧ w'.frozen? ⟨(w.heap.size + 3), 4, none⟩ = false) ∧ K_Sr A B C D w.heap.size (w.heap.size + 1) (w.heap.size + 2) (w.heap.size + 3) w w') ((refine K_Sr.ks ?_; repeat (first | (with_reducible assumption) | (with_reducible refine K_Sr.draws _ ?_) | (with_reducible refine K_Sr.drew ?_) | (with_reducible refine K_Sr.alloc _ ?_) | (with_reducible refine K_Sr.set ?_ _ _ _ (by omega)))))
    (first
      | (go_at_call 36; (with_reducible refine (P1.out _).mono ?_); rintro e w' ⟨A1, c1, rfl, hL1, ⟨hm1, hc1⟩, hbel⟩; have hk' := K_Sr.below hbel (And.right (by assumption)); have HL1 := Lib.hid hL1; have hs1 : w3.heap.size ≤ w'.heap.size := hbel.size; clear hL1 hbel)
      | (go_at_call 36; (with_reducible refine (P2.out _).mono ?_); rintro e wc ⟨A2, c2, rfl, hL2, ⟨hm2, hc2⟩, hbel⟩; have hk2 := K_Sr.below hbel (And.right (by assumption)); have HL2 := Lib.hid hL2; have HL3 := Lib.hid (HL1.out.next hbel); clear hL2 hbel HL1))
  all_goals
    rename_i hh
    clear hh hk hk'
    have HK2 := Lib.hid hk2
    clear hk2
    go_wp2_with fail
    have hz2 := HL3.out.lt
    go_loopw [9] (fun t9 wr => ∃ i : Nat, (i ≤ L1.length ∧ Below wc.heap.size wc wr ∧ ∀ k r, k < i → L1[k]? = some r → L2.find? (tnB C D r) = none) ∧ t9 = .int .i64 i) (fun t9 _ => L1.length - (intOf t9).toNat)
    case atStart => exact ⟨0, ⟨Nat.zero_le _, Below.refl _ _, fun k r hk => by omega⟩, rfl⟩
    case round =>
      obtain ⟨i, ⟨hil, hbel, hno⟩, rfl⟩ := hrel
      obtain ⟨wo, rfl⟩ : ∃ wo : World, wo = wr := ⟨_, rfl⟩
      have HN := Lib.hid hno
      have HB := Lib.hid hbel
      clear hno hbel
      by_cases hlt : i < L1.length
      · have hp : L1[i]? = some L1[i] := List.getElem?_eq_getElem hlt
        obtain ⟨p, hpp⟩ : ∃ p, L1[i] = p := ⟨_, rfl⟩
        rw [hpp] at hp
        have HP := Lib.hid hp
        clear hp hpp
        go_wp2_with fail
        go_loopw [10] (fun t10 wr => ∃ j : Nat, (j ≤ L2.length ∧ Below wc.heap.size wc wr ∧ ∀ k r, k < j → L2[k]? = some r → tnB C D p r = false) ∧ t10 = .int .i64 j) (fun t10 _ => L2.length - (intOf t10).toNat)
        case atStart => exact ⟨0, ⟨Nat.zero_le _, HB.out, fun k r hk => by omega⟩, rfl⟩
        case round =>
          obtain ⟨j, ⟨hjl, hbel, hno⟩, rfl⟩ := hrel
          obtain ⟨wo2, rfl⟩ : ∃ wo2 : World, wo2 = wr := ⟨_, rfl⟩
          have HN2 := Lib.hid hno
          have HB2 := Lib.hid hbel
          clear hno hbel
          by_cases hlt2 : j < L2.length
          · have hq : L2[j]? = some L2[j] := List.getElem?_eq_getElem hlt2
            obtain ⟨q, hqq⟩ : ∃ q, L2[j] = q := ⟨_, rfl⟩
            rw [hqq] at hq
            have HQ := Lib.hid hq
            clear hq hqq
            have SG := Lib.hid (fun V => S1.out p q V (m1.out p (List.mem_of_getElem? HP.out)) (m2.out q (List.mem_of_getElem? HQ.out)))
            obtain ⟨tn, htn⟩ : ∃ z, tnB C D p q = z := ⟨_, rfl⟩
            rw [htn] at SG
            have HTN := Lib.hid htn
            clear htn
            have hK3 := K_Sr.below HB2.out HK2.out
            obtain ⟨bp, rfl, hpc, hpn, -⟩ := LQ.at_ (LQ.below HL3.out HB2.out (LQ.lt HL3.out)) HP.out
            obtain ⟨bq, rfl, hqc, hqn, -⟩ := LQ.at_ (LQ.below HL2.out HB2.out (LQ.lt HL2.out)) HQ.out
            go_wp2_with fail
            have hk : K_St A B C D p.w p.x p.y p.z p.d q.w q.x q.y q.z q.d w.heap.size (w.heap.size + 1) (w.heap.size + 2) (w.heap.size + 3) bp (i * 5) bq (j * 5) wc wo2 := by
              refine ⟨fun x hx => ?_, hK3.g, hK3.f, HB2.out⟩
              simp only [List.mem_cons, List.not_mem_nil, or_false] at hx
              rcases hx with rfl | rfl | rfl | rfl | rfl | rfl | rfl | rfl | rfl | rfl | rfl | rfl | rfl | rfl
              · exact hK3.c (_, 0, _) (by simp)
              · exact hK3.c (_, 1, _) (by simp)
              · exact hK3.c (_, 0, _) (by simp)
              · exact hK3.c (_, 1, _) (by simp)
              · exact hpc.1
              · exact hpc.2.1
              · exact hpc.2.2.1
              · exact hpc.2.2.2.1
              · exact hpc.2.2.2.2
              · exact hqc.1
              · exact hqc.2.1
              · exact hqc.2.2.1
              · exact hqc.2.2.2.1
              · exact hqc.2.2.2.2
            clear hK3 hpc hqc
            obtain ⟨c0_, c1_, c2_, c3_, c4_, c5_, c6_, c7_, c8_, c9_, c10_, c11_, c12_, c13_, d0_, f0_, d1_, f1_, d2_, f2_, d3_, f3_, d4_, f4_, d5_, f5_, d6_, f6_, d7_, f7_, d8_, f8_, d9_, f9_⟩ := K_St.cells hk
            go_region_held3 (fun w' => (w'.cell? ⟨w.heap.size, 0, none⟩ = some (.int .i64 A) ∧ w'.cell? ⟨w.heap.size, 1, none⟩ = some (.int .i64 B) ∧ w'.cell? ⟨(w.heap.size + 1), 0, none⟩ = some (.int .i64 C) ∧ w'.cell? ⟨(w.heap.size + 1), 1, none⟩ = some (.int .i64 D) ∧ w'.cell? ⟨bp, (i * 5), none⟩ = some (.int .i64 p.w) ∧ w'.cell? ⟨bp, (i * 5) + 1, none⟩ = some (.int .i64 p.x) ∧ w'.cell? ⟨bp, (i * 5) + 2, none⟩ = some (.int .i64 p.y) ∧ w'.cell? ⟨bp, (i * 5) + 3, none⟩ = some (.int .i64 p.z) ∧ w'.cell? ⟨bp, (i * 5) + 4, none⟩ = some (.int .i64 p.d) ∧ w'.cell? ⟨bq, (j * 5), none⟩ = some (.int .i64 q.w) ∧ w'.cell? ⟨bq, (j * 5) + 1, none⟩ = some (.int .i64 q.x) ∧ w'.cell? ⟨bq, (j * 5) + 2, none⟩ = some (.int .i64 q.y) ∧ w'.cell? ⟨bq, (j * 5) + 3, none⟩ = some (.int .i64 q.z) ∧ w'.cell? ⟨bq, (j * 5) + 4, none⟩ = some (.int .i64 q.d) ∧ w'.cell? ⟨(w.heap.size + 2), 0, none⟩ = some (cv w' ((w.heap.size + 2)) 0) ∧ w'.frozen? ⟨(w.heap.size + 2), 0, none⟩ = false ∧ w'.cell? ⟨(w.heap.size + 2), 1, none⟩ = some (cv w' ((w.heap.size + 2)) 1) ∧ w'.frozen? ⟨(w.heap.size + 2), 1, none⟩ = false ∧ w'.cell? ⟨(w.heap.size + 2), 2, none⟩ = some (cv w' ((w.heap.size + 2)) 2) ∧ w'.frozen? ⟨(w.heap.size + 2), 2, none⟩ = false ∧ w'.cell? ⟨(w.heap.size + 2), 3, none⟩ = some (cv w' ((w.heap.size + 2)) 3) ∧ w'.frozen? ⟨(w.heap.size + 2), 3, none⟩ = false ∧ w'.cell? ⟨(w.heap.size + 2), 4, none⟩ = some (cv w' ((w.heap.size + 2)) 4) ∧ w'.frozen? ⟨(w.heap.size + 2), 4, none⟩ = false ∧ w'.cell? ⟨(w.heap.size + 3), 0, none⟩ = some (cv w' ((w.heap.size + 3)) 0) ∧ w'.frozen? ⟨(w.heap.size + 3), 0, none⟩ = false ∧ w'.cell? ⟨(w.heap.size + 3), 1, none⟩ = some (cv w' ((w.heap.size + 3)) 1) ∧ w'.frozen? ⟨(w.heap.size + 3), 1, none⟩ = false ∧ w'.cell? ⟨(w.heap.size + 3), 2, none⟩ = some (cv w' ((w.heap.size + 3)) 2) ∧ w'.frozen? ⟨(w.heap.size + 3), 2, none⟩ = false ∧ w'.cell? ⟨(w.heap.size + 3), 3, none⟩ = some (cv w' ((w.heap.size + 3)) 3) ∧ w'.frozen? ⟨(w.heap.size + 3), 3, none⟩ = false ∧ w'.cell? ⟨(w.heap.size + 3), 4, none⟩ = some (cv w' ((w.heap.size + 3)) 4) ∧ w'.frozen? ⟨(w.heap.size + 3), 4, none⟩ = false) ∧ K_St A B C D p.w p.x p.y p.z p.d q.w q.x q.y q.z q.d w.heap.size (w.heap.size + 1) (w.heap.size + 2) (w.heap.size + 3) bp (i * 5) bq (j * 5) wc w') ((refine K_St.ks ?_; repeat (first | (with_reducible assumption) | (with_reducible refine K_St.draws _ ?_) | (with_reducible refine K_St.drew ?_) | (with_reducible refine K_St.alloc _ ?_) | (with_reducible refine K_St.set ?_ _ _ _ (by omega)))))
              (first
                | (go_at_call 37; (with_reducible refine (SG.out _).mono ?_); rintro e w4 ⟨rfl, hbel⟩; have hk' := K_St.below hbel (And.right (by assumption)); clear hbel))
            rename_i hh
            clear hh hk c0_ c1_ c2_ c3_ c4_ c5_ c6_ c7_ c8_ c9_ c10_ c11_ c12_ c13_ d0_ f0_ d1_ f1_ d2_ f2_ d3_ f3_ d4_ f4_ d5_ f5_ d6_ f6_ d7_ f7_ d8_ f8_ d9_ f9_
            have HB4 := Lib.hid (K_St.bel hk')
            have hk9 := K_Sr.below (K_St.bel hk') HK2.out
            rcases tn with _ | _
            · clear hk' hk9
              go_wp2
              go_roundw
              case rel => exact ⟨j + 1, ⟨by omega, HB4.out, fun k r hk hr => by
                by_cases e : k = j
                · rw [e, HQ.out] at hr; rw [← Option.some.inj hr]; exact HTN.out
                · exact HN2.out k r (by omega) hr⟩, by go_num⟩
              case measure => simp [intOf]; omega
            · have HFF : Hid (ff (tnB C D) L1 L2 = some (p, q)) := Lib.hid (ff_some HP.out (find_some HQ.out HTN.out HN2.out) HN.out)
              obtain ⟨c0_, c1_, c2_, c3_, c4_, c5_, c6_, c7_, c8_, c9_, c10_, c11_, c12_, c13_, d0_, f0_, d1_, f1_, d2_, f2_, d3_, f3_, d4_, f4_, d5_, f5_, d6_, f6_, d7_, f7_, d8_, f8_, d9_, f9_⟩ := K_St.cells hk'
              obtain ⟨z0_, z1_, z2_, z3_, z4_, z5_, -⟩ := K_St.zs hk'
              have hpn' : w3.heap.size ≤ bp := hpn
              have hqn' : w'.heap.size ≤ bq := hqn
              clear hpn hqn
              have n1 : bp ≠ w.heap.size + 1 + 1 := by omega
              have n2 : bp ≠ w.heap.size + 1 + 1 + 1 := by omega
              have n3 : bq ≠ w.heap.size + 1 + 1 := by omega
              have n4 : bq ≠ w.heap.size + 1 + 1 + 1 := by omega
              have HK9 := Lib.hid hk9
              clear hk' hk9
              go_wp2_with fail
              go_region
              go_wp2_with fail
              have hk9 := HK9.out
              have e2 : w.heap.size + 2 = w.heap.size + 1 + 1 := rfl
              have e3 : w.heap.size + 3 = w.heap.size + 1 + 1 + 1 := rfl
              rw [e2, e3] at hk9
              clear e2 e3
              obtain ⟨hKn, hko⟩ := Sr_store hk9 (by omega) (by omega) (by omega) (by omega) (by omega) (by omega) (by omega) (p.w) (p.x) (p.y) (p.z) (p.d) (q.w) (q.x) (q.y) (q.z) (q.d)
              have hKf : K_Sf A B C D (p.w) (p.x) (p.y) (p.z) (p.d) (q.w) (q.x) (q.y) (q.z) (q.d) w.heap.size (w.heap.size + 1) (w.heap.size + 1 + 1) (w.heap.size + 1 + 1 + 1) w (((((((((((w4).setCell ⟨w.heap.size + 1 + 1, 0, none⟩ (.int .i64 p.w)).setCell ⟨w.heap.size + 1 + 1, 1, none⟩ (.int .i64 p.x)).setCell ⟨w.heap.size + 1 + 1, 2, none⟩ (.int .i64 p.y)).setCell ⟨w.heap.size + 1 + 1, 3, none⟩ (.int .i64 p.z)).setCell ⟨w.heap.size + 1 + 1, 4, none⟩ (.int .i64 p.d)).setCell ⟨w.heap.size + 1 + 1 + 1, 0, none⟩ (.int .i64 q.w)).setCell ⟨w.heap.size + 1 + 1 + 1, 1, none⟩ (.int .i64 q.x)).setCell ⟨w.heap.size + 1 + 1 + 1, 2, none⟩ (.int .i64 q.y)).setCell ⟨w.heap.size + 1 + 1 + 1, 3, none⟩ (.int .i64 q.z)).setCell ⟨w.heap.size + 1 + 1 + 1, 4, none⟩ (.int .i64 q.d)).drew := K_Sf.drew hKn
              clear hKn hko hk9
              generalize (((((((((((w4).setCell ⟨w.heap.size + 1 + 1, 0, none⟩ (.int .i64 p.w)).setCell ⟨w.heap.size + 1 + 1, 1, none⟩ (.int .i64 p.x)).setCell ⟨w.heap.size + 1 + 1, 2, none⟩ (.int .i64 p.y)).setCell ⟨w.heap.size + 1 + 1, 3, none⟩ (.int .i64 p.z)).setCell ⟨w.heap.size + 1 + 1, 4, none⟩ (.int .i64 p.d)).setCell ⟨w.heap.size + 1 + 1 + 1, 0, none⟩ (.int .i64 q.w)).setCell ⟨w.heap.size + 1 + 1 + 1, 1, none⟩ (.int .i64 q.x)).setCell ⟨w.heap.size + 1 + 1 + 1, 2, none⟩ (.int .i64 q.y)).setCell ⟨w.heap.size + 1 + 1 + 1, 3, none⟩ (.int .i64 q.z)).setCell ⟨w.heap.size + 1 + 1 + 1, 4, none⟩ (.int .i64 q.d)).drew = Wf at hKf ⊢
              obtain ⟨c0_, c1_, c2_, c3_, c4_, c5_, c6_, c7_, c8_, c9_, c10_, c11_, c12_, c13_⟩ := K_Sf.cells hKf
              exact bodyPost_ret (v := .tuple #[.agg #[.int .i64 (p.w), .int .i64 (p.x), .int .i64 (p.y), .int .i64 (p.z), .int .i64 (p.d)], .agg #[.int .i64 (q.w), .int .i64 (q.x), .int .i64 (q.y), .int .i64 (q.z), .int .i64 (q.d)], .int .i64 0]) (by simp [results, Tryd.results17, go_sem, c0_, c1_, c2_, c3_, c4_, c5_, c6_, c7_, c8_, c9_, c10_, c11_, c12_, c13_]) rfl ⟨by rw [HFF.out]; rfl, K_Sf.bel hKf⟩
          · have HF : Hid (L2.find? (tnB C D p) = none) := Lib.hid (find_none fun j' r hj' hr => HN2.out j' r (by omega) hr)
            go_wp2_with fail
            go_roundw
            case rel => exact ⟨i + 1, ⟨by omega, HB2.out, fun k r hk hr => by
              by_cases e : k = i
              · rw [e, HP.out] at hr; rw [← Option.some.inj hr]; exact HF.out
              · exact HN.out k r (by omega) hr⟩, by go_num⟩
            case measure => simp [intOf]; omega
      · have HF : Hid (ff (tnB C D) L1 L2 = none) := Lib.hid (ff_none fun k r hk hr => HN.out k r (by omega) hr)
        have hK3 := K_Sr.below HB.out HK2.out
        obtain ⟨c0_, c1_, c2_, c3_, d0_, f0_, d1_, f1_, d2_, f2_, d3_, f3_, d4_, f4_, d5_, f5_, d6_, f6_, d7_, f7_, d8_, f8_, d9_, f9_⟩ := K_Sr.cells hK3
        have HK3 := Lib.hid hK3
        clear hK3
        go_wp2_with fail
        have hk9 := HK3.out
        have e2 : w.heap.size + 2 = w.heap.size + 1 + 1 := rfl
        have e3 : w.heap.size + 3 = w.heap.size + 1 + 1 + 1 := rfl
        rw [e2, e3] at hk9
        clear e2 e3
        obtain ⟨hKn, hko⟩ := Sr_store hk9 (by omega) (by omega) (by omega) (by omega) (by omega) (by omega) (by omega) (0) (0) (0) (0) (0) (0) (0) (0) (0) (0)
        have hKf : K_Sf A B C D (0) (0) (0) (0) (0) (0) (0) (0) (0) (0) w.heap.size (w.heap.size + 1) (w.heap.size + 1 + 1) (w.heap.size + 1 + 1 + 1) w (((((((((((wo).setCell ⟨w.heap.size + 1 + 1, 0, none⟩ (.int .i64 0)).setCell ⟨w.heap.size + 1 + 1, 1, none⟩ (.int .i64 0)).setCell ⟨w.heap.size + 1 + 1, 2, none⟩ (.int .i64 0)).setCell ⟨w.heap.size + 1 + 1, 3, none⟩ (.int .i64 0)).setCell ⟨w.heap.size + 1 + 1, 4, none⟩ (.int .i64 0)).setCell ⟨w.heap.size + 1 + 1 + 1, 0, none⟩ (.int .i64 0)).setCell ⟨w.heap.size + 1 + 1 + 1, 1, none⟩ (.int .i64 0)).setCell ⟨w.heap.size + 1 + 1 + 1, 2, none⟩ (.int .i64 0)).setCell ⟨w.heap.size + 1 + 1 + 1, 3, none⟩ (.int .i64 0)).setCell ⟨w.heap.size + 1 + 1 + 1, 4, none⟩ (.int .i64 0)) := hKn
        clear hKn hko hk9
        generalize (((((((((((wo).setCell ⟨w.heap.size + 1 + 1, 0, none⟩ (.int .i64 0)).setCell ⟨w.heap.size + 1 + 1, 1, none⟩ (.int .i64 0)).setCell ⟨w.heap.size + 1 + 1, 2, none⟩ (.int .i64 0)).setCell ⟨w.heap.size + 1 + 1, 3, none⟩ (.int .i64 0)).setCell ⟨w.heap.size + 1 + 1, 4, none⟩ (.int .i64 0)).setCell ⟨w.heap.size + 1 + 1 + 1, 0, none⟩ (.int .i64 0)).setCell ⟨w.heap.size + 1 + 1 + 1, 1, none⟩ (.int .i64 0)).setCell ⟨w.heap.size + 1 + 1 + 1, 2, none⟩ (.int .i64 0)).setCell ⟨w.heap.size + 1 + 1 + 1, 3, none⟩ (.int .i64 0)).setCell ⟨w.heap.size + 1 + 1 + 1, 4, none⟩ (.int .i64 0)) = Wf at hKf ⊢
        obtain ⟨c0_, c1_, c2_, c3_, c4_, c5_, c6_, c7_, c8_, c9_, c10_, c11_, c12_, c13_⟩ := K_Sf.cells hKf
        exact bodyPost_ret (v := .tuple #[.agg #[.int .i64 0, .int .i64 0, .int .i64 0, .int .i64 0, .int .i64 0], .agg #[.int .i64 0, .int .i64 0, .int .i64 0, .int .i64 0, .int .i64 0], .int .i64 21]) (by simp [results, Tryd.results17, go_sem, c0_, c1_, c2_, c3_, c4_, c5_, c6_, c7_, c8_, c9_, c10_, c11_, c12_, c13_]) rfl ⟨by rw [HF.out]; rfl, K_Sf.bel hKf⟩
end Go.Proofs.YtgbnmnkgelklbaaDoor.Iso
