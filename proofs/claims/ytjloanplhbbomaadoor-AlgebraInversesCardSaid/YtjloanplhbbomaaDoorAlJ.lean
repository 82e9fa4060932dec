/-
  WALKS: the reference's inverses.
-/
import Derived.Test.YtjloanplhbbomaaDoorAlI
import Derived.Test.YtjloanplhbbomaaDoorAlK
namespace Go.Proofs.YtjloanplhbbomaaDoor.Al
open Go.RowKit
open Alm
set_option linter.unusedVariables false
set_option linter.unusedSimpArgs false
set_option maxRecDepth 100000
/-- what a walk keeps: cells, and that nothing that was there has turned -/
def K_J (A B : Int) (b1 b2 R : Nat) (w w' : World) : Prop := KL w [(b1, 0, .int .i64 A), (b1, 1, .int .i64 B)] [(b2, 0), (b2, 1), (b2, 2), (b2, 3), (b2, 4), (R, 0), (R, 1), (R, 2), (R, 3), (R, 4)] w'
theorem K_J.below {A B : Int} {b1 b2 R : Nat} {w w1 w2 : World} (hb : Below w1.heap.size w1 w2) (h : K_J A B b1 b2 R w w1) : K_J A B b1 b2 R w w2 := KL.below hb h
theorem K_J.draws {A B : Int} {b1 b2 R : Nat} {w w1 : World} (n : Nat) (h : K_J A B b1 b2 R w w1) : K_J A B b1 b2 R w (w1.drewN n) := KL.draws n h
theorem K_J.drew {A B : Int} {b1 b2 R : Nat} {w w1 : World} (h : K_J A B b1 b2 R w w1) : K_J A B b1 b2 R w w1.drew := KL.draws 1 h
theorem K_J.alloc {A B : Int} {b1 b2 R : Nat} {w w1 : World} (o : Obj) (h : K_J A B b1 b2 R w w1) : K_J A B b1 b2 R w (w1.alloc o) := KL.alloc o h
theorem K_J.set {A B : Int} {b1 b2 R : Nat} {w w1 : World} (h : K_J A B b1 b2 R w w1) (b i : Nat) (v : Value) (hb : b ≠ b1 ∧ w.heap.size ≤ b) : K_J A B b1 b2 R w (w1.setCell ⟨b, i, none⟩ v) :=
  KL.set h b i v (by intro x hx; simp only [List.mem_cons, List.not_mem_nil, or_false] at hx; rcases hx with rfl | rfl <;> simp only [] <;> omega) (by omega)
theorem K_J.bel {A B : Int} {b1 b2 R : Nat} {w w1 : World} (h : K_J A B b1 b2 R w w1) : Below w.heap.size w w1 := KL.bel h
theorem K_J.cells {A B : Int} {b1 b2 R : Nat} {w w' : World} (h : K_J A B b1 b2 R w w') : w'.cell? ⟨b1, 0, none⟩ = some (.int .i64 A) ∧ w'.cell? ⟨b1, 1, none⟩ = some (.int .i64 B) ∧ w'.cell? ⟨b2, 0, none⟩ = some (cv w' b2 0) ∧ w'.frozen? ⟨b2, 0, none⟩ = false ∧ w'.cell? ⟨b2, 1, none⟩ = some (cv w' b2 1) ∧ w'.frozen? ⟨b2, 1, none⟩ = false ∧ w'.cell? ⟨b2, 2, none⟩ = some (cv w' b2 2) ∧ w'.frozen? ⟨b2, 2, none⟩ = false ∧ w'.cell? ⟨b2, 3, none⟩ = some (cv w' b2 3) ∧ w'.frozen? ⟨b2, 3, none⟩ = false ∧ w'.cell? ⟨b2, 4, none⟩ = some (cv w' b2 4) ∧ w'.frozen? ⟨b2, 4, none⟩ = false ∧ w'.cell? ⟨R, 0, none⟩ = some (cv w' R 0) ∧ w'.frozen? ⟨R, 0, none⟩ = false ∧ w'.cell? ⟨R, 1, none⟩ = some (cv w' R 1) ∧ w'.frozen? ⟨R, 1, none⟩ = false ∧ w'.cell? ⟨R, 2, none⟩ = some (cv w' R 2) ∧ w'.frozen? ⟨R, 2, none⟩ = false ∧ w'.cell? ⟨R, 3, none⟩ = some (cv w' R 3) ∧ w'.frozen? ⟨R, 3, none⟩ = false ∧ w'.cell? ⟨R, 4, none⟩ = some (cv w' R 4) ∧ w'.frozen? ⟨R, 4, none⟩ = false := ⟨h.c (b1, 0, .int .i64 A) (by simp), h.c (b1, 1, .int .i64 B) (by simp), h.d (b2, 0) (by simp), h.f (b2, 0) (by simp), h.d (b2, 1) (by simp), h.f (b2, 1) (by simp), h.d (b2, 2) (by simp), h.f (b2, 2) (by simp), h.d (b2, 3) (by simp), h.f (b2, 3) (by simp), h.d (b2, 4) (by simp), h.f (b2, 4) (by simp), h.d (R, 0) (by simp), h.f (R, 0) (by simp), h.d (R, 1) (by simp), h.f (R, 1) (by simp), h.d (R, 2) (by simp), h.f (R, 2) (by simp), h.d (R, 3) (by simp), h.f (R, 3) (by simp), h.d (R, 4) (by simp), h.f (R, 4) (by simp)⟩
theorem K_J.zs {A B : Int} {b1 b2 R : Nat} {w w' : World} (h : K_J A B b1 b2 R w w') : b1 < w'.heap.size ∧ b2 < w'.heap.size ∧ R < w'.heap.size ∧ True := ⟨KL.z h (x := (b1, 0, .int .i64 A)) (by simp), KL.zf h (x := (b2, 0)) (by simp), KL.zf h (x := (R, 0)) (by simp), trivial⟩
theorem K_J.ks {A B : Int} {b1 b2 R : Nat} {w w' : World} (h : K_J A B b1 b2 R w w') : (w'.cell? ⟨b1, 0, none⟩ = some (.int .i64 A) ∧ w'.cell? ⟨b1, 1, none⟩ = some (.int .i64 B) ∧ w'.cell? ⟨b2, 0, none⟩ = some (cv w' b2 0) ∧ w'.frozen? ⟨b2, 0, none⟩ = false ∧ w'.cell? ⟨b2, 1, none⟩ = some (cv w' b2 1) ∧ w'.frozen? ⟨b2, 1, none⟩ = false ∧ w'.cell? ⟨b2, 2, none⟩ = some (cv w' b2 2) ∧ w'.frozen? ⟨b2, 2, none⟩ = false ∧ w'.cell? ⟨b2, 3, none⟩ = some (cv w' b2 3) ∧ w'.frozen? ⟨b2, 3, none⟩ = false ∧ w'.cell? ⟨b2, 4, none⟩ = some (cv w' b2 4) ∧ w'.frozen? ⟨b2, 4, none⟩ = false ∧ w'.cell? ⟨R, 0, none⟩ = some (cv w' R 0) ∧ w'.frozen? ⟨R, 0, none⟩ = false ∧ w'.cell? ⟨R, 1, none⟩ = some (cv w' R 1) ∧ w'.frozen? ⟨R, 1, none⟩ = false ∧ w'.cell? ⟨R, 2, none⟩ = some (cv w' R 2) ∧ w'.frozen? ⟨R, 2, none⟩ = false ∧ w'.cell? ⟨R, 3, none⟩ = some (cv w' R 3) ∧ w'.frozen? ⟨R, 3, none⟩ = false ∧ w'.cell? ⟨R, 4, none⟩ = some (cv w' R 4) ∧ w'.frozen? ⟨R, 4, none⟩ = false) ∧ K_J A B b1 b2 R w w' := ⟨h.cells, h⟩
set_option maxHeartbeats 3200000 in
theorem rInverse_v (A B n0 n1 n2 n3 d : Int) (w : World) (hA : chkA A B = 0) (hq : chkQ n0 n1 n2 n3 d = 0) :
    Calls Tryd.prog 42 #[.agg #[.int .i64 A, .int .i64 B], .agg #[.int .i64 n0, .int .i64 n1, .int .i64 n2, .int .i64 n3, .int .i64 d]] w fun e w' => e = .returned (.tuple #[.agg #[.int .i64 (invQ A B ⟨n0, n1, n2, n3, d⟩).w, .int .i64 (invQ A B ⟨n0, n1, n2, n3, d⟩).x, .int .i64 (invQ A B ⟨n0, n1, n2, n3, d⟩).y, .int .i64 (invQ A B ⟨n0, n1, n2, n3, d⟩).z, .int .i64 (invQ A B ⟨n0, n1, n2, n3, d⟩).d], .int .i64 (invE A B ⟨n0, n1, n2, n3, d⟩)]) ∧ Below w.heap.size w w' := by
  have RN := Lib.hid (fun W => rNormal_v n0 n1 n2 n3 d W hq)
  have dp : 0 < (Q.mk n0 n1 n2 n3 d).d := by have := qin_of hq; show 0 < d; omega
  have hl := low_fits (chkQ_ok hq)
  rw [← (inv_low (A := A) (B := B) dp).1, ← (inv_low (A := A) (B := B) dp).2]
  obtain ⟨P, hP⟩ : ∃ P, (Q.mk n0 n1 n2 n3 d).low = P := ⟨_, rfl⟩
  rw [hP] at hl RN ⊢
  clear hP dp hq
  have hq : chkQ P.w P.x P.y P.z P.d = 0 := by unfold chkQ; rw [if_pos hl]
  obtain ⟨a0, a1, a2, a3, a4, a5⟩ := qin_of hq
  have hd : Bn 1000000 P.d := ⟨by omega, by omega⟩
  have NN := Lib.hid (fun W => number_v A B P.w P.x P.y P.z P.d W (Bn_A hA).1 (Bn_A hA).2 a0 a1 a2 a3)
  have nb := nm_bd (Bn_A hA).1 (Bn_A hA).2 a0 a1 a2 a3
  have c1 : Bn 1000000 (-P.x) := ⟨by omega, by omega⟩
  have c2 : Bn 1000000 (-P.y) := ⟨by omega, by omega⟩
  have c3 : Bn 1000000 (-P.z) := ⟨by omega, by omega⟩
  have p0 := Bn.mul 1000000000000 a0 hd rfl
  have p1 := Bn.mul 1000000000000 c1 hd rfl
  have p2 := Bn.mul 1000000000000 c2 hd rfl
  have p3 := Bn.mul 1000000000000 c3 hd rfl
  by_cases hz : nm A B P.w P.x P.y P.z = 0
  · rw [(invE_z hz).1, (invE_z hz).2]
    rw [hz] at NN
    clear hA hq a0 a1 a2 a3 a4 a5 hd nb c1 c2 c3 p0 p1 p2 p3 hz hl
    go_enter Tryd.func42, Tryd.ntmps42
    go_wp2_with fail
    refine (RN.out _).mono ?_
    rintro e w1 ⟨rfl, hb⟩
    have hK : K_J A B w.heap.size (w.heap.size + 1) (w.heap.size + 2) w w1 := K_J.below hb ⟨by simp [go_sem], by simp [go_sem], by simp [go_sem], by (repeat (first | (with_reducible exact Below.refl _ _) | (with_reducible exact HB.out) | (with_reducible refine below_draws ?_ _) | (with_reducible refine Below.alloc ?_ (by go_size) _) | (with_reducible refine Below.setCell ?_ (by go_size) _) | (with_reducible refine Below.alloc ?_ (by simp <;> omega) _) | (with_reducible refine Below.setCell ?_ (by simp <;> omega) _)))⟩
    clear hb
    obtain ⟨c0_, c1_, d0_, f0_, d1_, f1_, d2_, f2_, d3_, f3_, d4_, f4_, d5_, f5_, d6_, f6_, d7_, f7_, d8_, f8_, d9_, f9_⟩ := K_J.cells hK; obtain ⟨z0_, z1_, z2_, -⟩ := K_J.zs hK; have HK := Lib.hid hK; clear hK
    go_wp2_with fail
    refine (NN.out _).mono ?_
    rintro e w2 ⟨rfl, hb⟩
    have hK : K_V A B P.w P.x P.y P.z P.d w.heap.size (w.heap.size + 1) (w.heap.size + 2) w w2 := K_V.below hb ⟨by simp [go_sem, c0_, c1_, d0_, f0_, d1_, f1_, d2_, f2_, d3_, f3_, d4_, f4_, d5_, f5_, d6_, f6_, d7_, f7_, d8_, f8_, d9_, f9_], by simp [go_sem, c0_, c1_, d0_, f0_, d1_, f1_, d2_, f2_, d3_, f3_, d4_, f4_, d5_, f5_, d6_, f6_, d7_, f7_, d8_, f8_, d9_, f9_], by simp [go_sem, c0_, c1_, d0_, f0_, d1_, f1_, d2_, f2_, d3_, f3_, d4_, f4_, d5_, f5_, d6_, f6_, d7_, f7_, d8_, f8_, d9_, f9_], by have HB := Lib.hid (K_J.bel HK.out); (repeat (first | (with_reducible exact Below.refl _ _) | (with_reducible exact HB.out) | (with_reducible refine below_draws ?_ _) | (with_reducible refine Below.alloc ?_ (by go_size) _) | (with_reducible refine Below.setCell ?_ (by go_size) _) | (with_reducible refine Below.alloc ?_ (by simp <;> omega) _) | (with_reducible refine Below.setCell ?_ (by simp <;> omega) _)))⟩
    clear c0_ c1_ d0_ f0_ d1_ f1_ d2_ f2_ d3_ f3_ d4_ f4_ d5_ f5_ d6_ f6_ d7_ f7_ d8_ f8_ d9_ f9_ z0_ z1_ z2_
    clear hb HK
    obtain ⟨c0_, c1_, c2_, c3_, c4_, c5_, c6_, d0_, f0_, d1_, f1_, d2_, f2_, d3_, f3_, d4_, f4_⟩ := K_V.cells hK; obtain ⟨z0_, z1_, z2_, -⟩ := K_V.zs hK; have HK := Lib.hid hK; clear hK
    have HB := Lib.hid (K_V.bel HK.out)
    go_wp2
    exact bodyPost_ret (v := .tuple #[.agg #[.int .i64 0, .int .i64 0, .int .i64 0, .int .i64 0, .int .i64 0], .int .i64 10]) (by simp [results, Tryd.results42, go_sem, c0_, c1_, c2_, c3_, c4_, c5_, c6_, d0_, f0_, d1_, f1_, d2_, f2_, d3_, f3_, d4_, f4_]) rfl ⟨rfl, by (repeat (first | (with_reducible exact Below.refl _ _) | (with_reducible exact HB.out) | (with_reducible refine below_draws ?_ _) | (with_reducible refine Below.alloc ?_ (by go_size) _) | (with_reducible refine Below.setCell ?_ (by go_size) _) | (with_reducible refine Below.alloc ?_ (by simp <;> omega) _) | (with_reducible refine Below.setCell ?_ (by simp <;> omega) _)))⟩
  · have FT := Lib.hid (fun W => Fits_any (P.w * P.d) (-P.x * P.d) (-P.y * P.d) (-P.z * P.d) (nm A B P.w P.x P.y P.z) W (by omega) (by omega) (by omega) (by omega) (by omega) hz)
    have ht : (nm A B P.w P.x P.y P.z == 0) = false := by rw [beq_eq_false_iff_ne]; exact hz
    rw [(invE_n hz).1, (invE_n hz).2]
    obtain ⟨s, hs⟩ : ∃ s, fitQ ⟨P.w * P.d, -P.x * P.d, -P.y * P.d, -P.z * P.d, nm A B P.w P.x P.y P.z⟩ = s := ⟨_, rfl⟩
    obtain ⟨t, hs'⟩ : ∃ t, fitE ⟨P.w * P.d, -P.x * P.d, -P.y * P.d, -P.z * P.d, nm A B P.w P.x P.y P.z⟩ = t := ⟨_, rfl⟩
    rw [hs, hs'] at FT ⊢
    obtain ⟨N, hN⟩ : ∃ N, nm A B P.w P.x P.y P.z = N := ⟨_, rfl⟩
    rw [hN] at NN FT ht
    obtain ⟨a1, a1'⟩ := a1
    obtain ⟨a2, a2'⟩ := a2
    obtain ⟨a3, a3'⟩ := a3
    obtain ⟨p0, p0'⟩ := p0
    obtain ⟨p1, p1'⟩ := p1
    obtain ⟨p2, p2'⟩ := p2
    obtain ⟨p3, p3'⟩ := p3
    clear hA hq a0 a4 a5 hd nb c1 c2 c3 hz hs hs' hN hl
    go_enter Tryd.func42, Tryd.ntmps42
    go_wp2_with fail
    refine (RN.out _).mono ?_
    rintro e w1 ⟨rfl, hb⟩
    have hK : K_J A B w.heap.size (w.heap.size + 1) (w.heap.size + 2) w w1 := K_J.below hb ⟨by simp [go_sem], by simp [go_sem], by simp [go_sem], by (repeat (first | (with_reducible exact Below.refl _ _) | (with_reducible exact HB.out) | (with_reducible refine below_draws ?_ _) | (with_reducible refine Below.alloc ?_ (by go_size) _) | (with_reducible refine Below.setCell ?_ (by go_size) _) | (with_reducible refine Below.alloc ?_ (by simp <;> omega) _) | (with_reducible refine Below.setCell ?_ (by simp <;> omega) _)))⟩
    clear hb
    obtain ⟨c0_, c1_, d0_, f0_, d1_, f1_, d2_, f2_, d3_, f3_, d4_, f4_, d5_, f5_, d6_, f6_, d7_, f7_, d8_, f8_, d9_, f9_⟩ := K_J.cells hK; obtain ⟨z0_, z1_, z2_, -⟩ := K_J.zs hK; have HK := Lib.hid hK; clear hK
    go_wp2_with fail
    refine (NN.out _).mono ?_
    rintro e w2 ⟨rfl, hb⟩
    have hK : K_V A B P.w P.x P.y P.z P.d w.heap.size (w.heap.size + 1) (w.heap.size + 2) w w2 := K_V.below hb ⟨by simp [go_sem, c0_, c1_, d0_, f0_, d1_, f1_, d2_, f2_, d3_, f3_, d4_, f4_, d5_, f5_, d6_, f6_, d7_, f7_, d8_, f8_, d9_, f9_], by simp [go_sem, c0_, c1_, d0_, f0_, d1_, f1_, d2_, f2_, d3_, f3_, d4_, f4_, d5_, f5_, d6_, f6_, d7_, f7_, d8_, f8_, d9_, f9_], by simp [go_sem, c0_, c1_, d0_, f0_, d1_, f1_, d2_, f2_, d3_, f3_, d4_, f4_, d5_, f5_, d6_, f6_, d7_, f7_, d8_, f8_, d9_, f9_], by have HB := Lib.hid (K_J.bel HK.out); (repeat (first | (with_reducible exact Below.refl _ _) | (with_reducible exact HB.out) | (with_reducible refine below_draws ?_ _) | (with_reducible refine Below.alloc ?_ (by go_size) _) | (with_reducible refine Below.setCell ?_ (by go_size) _) | (with_reducible refine Below.alloc ?_ (by simp <;> omega) _) | (with_reducible refine Below.setCell ?_ (by simp <;> omega) _)))⟩
    clear c0_ c1_ d0_ f0_ d1_ f1_ d2_ f2_ d3_ f3_ d4_ f4_ d5_ f5_ d6_ f6_ d7_ f7_ d8_ f8_ d9_ f9_ z0_ z1_ z2_
    clear hb HK
    obtain ⟨c0_, c1_, c2_, c3_, c4_, c5_, c6_, d0_, f0_, d1_, f1_, d2_, f2_, d3_, f3_, d4_, f4_⟩ := K_V.cells hK; obtain ⟨z0_, z1_, z2_, -⟩ := K_V.zs hK; have HK := Lib.hid hK; clear hK
    go_wp2_with fail
    refine (FT.out _).mono ?_
    rintro e w3 ⟨rfl, hb⟩
    clear c0_ c1_ c2_ c3_ c4_ c5_ c6_ d0_ f0_ d1_ f1_ d2_ f2_ d3_ f3_ d4_ f4_ z0_ z1_ z2_
    have hK := K_V.below hb HK.out
    clear hb HK
    obtain ⟨c0_, c1_, c2_, c3_, c4_, c5_, c6_, d0_, f0_, d1_, f1_, d2_, f2_, d3_, f3_, d4_, f4_⟩ := K_V.cells hK; obtain ⟨z0_, z1_, z2_, -⟩ := K_V.zs hK; have HK := Lib.hid hK; clear hK
    have HB := Lib.hid (K_V.bel HK.out)
    go_wp2
    exact bodyPost_ret (v := .tuple #[.agg #[.int .i64 (s).w, .int .i64 (s).x, .int .i64 (s).y, .int .i64 (s).z, .int .i64 (s).d], .int .i64 t]) (by simp [results, Tryd.results42, go_sem, c0_, c1_, c2_, c3_, c4_, c5_, c6_, d0_, f0_, d1_, f1_, d2_, f2_, d3_, f3_, d4_, f4_]) rfl ⟨rfl, by (repeat (first | (with_reducible exact Below.refl _ _) | (with_reducible exact HB.out) | (with_reducible refine below_draws ?_ _) | (with_reducible refine Below.alloc ?_ (by go_size) _) | (with_reducible refine Below.setCell ?_ (by go_size) _) | (with_reducible refine Below.alloc ?_ (by simp <;> omega) _) | (with_reducible refine Below.setCell ?_ (by simp <;> omega) _)))⟩
end Go.Proofs.YtjloanplhbbomaaDoor.Al
