/-
  WALKS: the images of i and j, the reference's side.
-/
import Derived.Test.YtjloanplhbbomaaDoorAlD
namespace Go.Proofs.YtjloanplhbbomaaDoor.Al
open Go.RowKit
open Alm
set_option linter.unusedVariables false
set_option linter.unusedSimpArgs false
set_option maxRecDepth 100000
/-- what a walk keeps: cells, and that nothing that was there has turned -/
def K_X3 (x0 x1 x2 x3 x4 y0 y1 y2 y3 y4 A B C D p0 p1 p2 p3 p4 r0 r1 r2 r3 r4 : Int) (bx bz bu ou b1 b2 : Nat) (w w' : World) : Prop := KL w [(bz, 0, .int .i64 r0), (bz, 1, .int .i64 r1), (bz, 2, .int .i64 r2), (bz, 3, .int .i64 r3), (bz, 4, .int .i64 r4), (bx, 0, .int .i64 p0), (bx, 1, .int .i64 p1), (bx, 2, .int .i64 p2), (bx, 3, .int .i64 p3), (bx, 4, .int .i64 p4), (bu, ou, .int .i64 x0), (bu, ou + 1, .int .i64 x1), (bu, ou + 2, .int .i64 x2), (bu, ou + 3, .int .i64 x3), (bu, ou + 4, .int .i64 x4), (bu, ou + 5, .int .i64 y0), (bu, ou + 6, .int .i64 y1), (bu, ou + 7, .int .i64 y2), (bu, ou + 8, .int .i64 y3), (bu, ou + 9, .int .i64 y4), (b1, 0, .int .i64 A), (b1, 1, .int .i64 B), (b2, 0, .int .i64 C), (b2, 1, .int .i64 D)] [] w'
theorem K_X3.below {x0 x1 x2 x3 x4 y0 y1 y2 y3 y4 A B C D p0 p1 p2 p3 p4 r0 r1 r2 r3 r4 : Int} {bx bz bu ou b1 b2 : Nat} {w w1 w2 : World} (hb : Below w1.heap.size w1 w2) (h : K_X3 x0 x1 x2 x3 x4 y0 y1 y2 y3 y4 A B C D p0 p1 p2 p3 p4 r0 r1 r2 r3 r4 bx bz bu ou b1 b2 w w1) : K_X3 x0 x1 x2 x3 x4 y0 y1 y2 y3 y4 A B C D p0 p1 p2 p3 p4 r0 r1 r2 r3 r4 bx bz bu ou b1 b2 w w2 := KL.below hb h
theorem K_X3.draws {x0 x1 x2 x3 x4 y0 y1 y2 y3 y4 A B C D p0 p1 p2 p3 p4 r0 r1 r2 r3 r4 : Int} {bx bz bu ou b1 b2 : Nat} {w w1 : World} (n : Nat) (h : K_X3 x0 x1 x2 x3 x4 y0 y1 y2 y3 y4 A B C D p0 p1 p2 p3 p4 r0 r1 r2 r3 r4 bx bz bu ou b1 b2 w w1) : K_X3 x0 x1 x2 x3 x4 y0 y1 y2 y3 y4 A B C D p0 p1 p2 p3 p4 r0 r1 r2 r3 r4 bx bz bu ou b1 b2 w (w1.drewN n) := KL.draws n h
theorem K_X3.drew {x0 x1 x2 x3 x4 y0 y1 y2 y3 y4 A B C D p0 p1 p2 p3 p4 r0 r1 r2 r3 r4 : Int} {bx bz bu ou b1 b2 : Nat} {w w1 : World} (h : K_X3 x0 x1 x2 x3 x4 y0 y1 y2 y3 y4 A B C D p0 p1 p2 p3 p4 r0 r1 r2 r3 r4 bx bz bu ou b1 b2 w w1) : K_X3 x0 x1 x2 x3 x4 y0 y1 y2 y3 y4 A B C D p0 p1 p2 p3 p4 r0 r1 r2 r3 r4 bx bz bu ou b1 b2 w w1.drew := KL.draws 1 h
theorem K_X3.alloc {x0 x1 x2 x3 x4 y0 y1 y2 y3 y4 A B C D p0 p1 p2 p3 p4 r0 r1 r2 r3 r4 : Int} {bx bz bu ou b1 b2 : Nat} {w w1 : World} (o : Obj) (h : K_X3 x0 x1 x2 x3 x4 y0 y1 y2 y3 y4 A B C D p0 p1 p2 p3 p4 r0 r1 r2 r3 r4 bx bz bu ou b1 b2 w w1) : K_X3 x0 x1 x2 x3 x4 y0 y1 y2 y3 y4 A B C D p0 p1 p2 p3 p4 r0 r1 r2 r3 r4 bx bz bu ou b1 b2 w (w1.alloc o) := KL.alloc o h
theorem K_X3.set {x0 x1 x2 x3 x4 y0 y1 y2 y3 y4 A B C D p0 p1 p2 p3 p4 r0 r1 r2 r3 r4 : Int} {bx bz bu ou b1 b2 : Nat} {w w1 : World} (h : K_X3 x0 x1 x2 x3 x4 y0 y1 y2 y3 y4 A B C D p0 p1 p2 p3 p4 r0 r1 r2 r3 r4 bx bz bu ou b1 b2 w w1) (b i : Nat) (v : Value) (hb : b ≠ bz ∧ b ≠ bx ∧ b ≠ bu ∧ b ≠ b1 ∧ b ≠ b2 ∧ w.heap.size ≤ b) : K_X3 x0 x1 x2 x3 x4 y0 y1 y2 y3 y4 A B C D p0 p1 p2 p3 p4 r0 r1 r2 r3 r4 bx bz bu ou b1 b2 w (w1.setCell ⟨b, i, none⟩ v) :=
  KL.set h b i v (by intro x hx; simp only [List.mem_cons, List.not_mem_nil, or_false] at hx; rcases hx with rfl | rfl | rfl | rfl | rfl | rfl | rfl | rfl | rfl | rfl | rfl | rfl | rfl | rfl | rfl | rfl | rfl | rfl | rfl | rfl | rfl | rfl | rfl | rfl <;> simp only [] <;> omega) (by omega)
theorem K_X3.bel {x0 x1 x2 x3 x4 y0 y1 y2 y3 y4 A B C D p0 p1 p2 p3 p4 r0 r1 r2 r3 r4 : Int} {bx bz bu ou b1 b2 : Nat} {w w1 : World} (h : K_X3 x0 x1 x2 x3 x4 y0 y1 y2 y3 y4 A B C D p0 p1 p2 p3 p4 r0 r1 r2 r3 r4 bx bz bu ou b1 b2 w w1) : Below w.heap.size w w1 := KL.bel h
theorem K_X3.cells {x0 x1 x2 x3 x4 y0 y1 y2 y3 y4 A B C D p0 p1 p2 p3 p4 r0 r1 r2 r3 r4 : Int} {bx bz bu ou b1 b2 : Nat} {w w' : World} (h : K_X3 x0 x1 x2 x3 x4 y0 y1 y2 y3 y4 A B C D p0 p1 p2 p3 p4 r0 r1 r2 r3 r4 bx bz bu ou b1 b2 w w') : w'.cell? ⟨bz, 0, none⟩ = some (.int .i64 r0) ∧ w'.cell? ⟨bz, 1, none⟩ = some (.int .i64 r1) ∧ w'.cell? ⟨bz, 2, none⟩ = some (.int .i64 r2) ∧ w'.cell? ⟨bz, 3, none⟩ = some (.int .i64 r3) ∧ w'.cell? ⟨bz, 4, none⟩ = some (.int .i64 r4) ∧ w'.cell? ⟨bx, 0, none⟩ = some (.int .i64 p0) ∧ w'.cell? ⟨bx, 1, none⟩ = some (.int .i64 p1) ∧ w'.cell? ⟨bx, 2, none⟩ = some (.int .i64 p2) ∧ w'.cell? ⟨bx, 3, none⟩ = some (.int .i64 p3) ∧ w'.cell? ⟨bx, 4, none⟩ = some (.int .i64 p4) ∧ w'.cell? ⟨bu, ou, none⟩ = some (.int .i64 x0) ∧ w'.cell? ⟨bu, ou + 1, none⟩ = some (.int .i64 x1) ∧ w'.cell? ⟨bu, ou + 2, none⟩ = some (.int .i64 x2) ∧ w'.cell? ⟨bu, ou + 3, none⟩ = some (.int .i64 x3) ∧ w'.cell? ⟨bu, ou + 4, none⟩ = some (.int .i64 x4) ∧ w'.cell? ⟨bu, ou + 5, none⟩ = some (.int .i64 y0) ∧ w'.cell? ⟨bu, ou + 6, none⟩ = some (.int .i64 y1) ∧ w'.cell? ⟨bu, ou + 7, none⟩ = some (.int .i64 y2) ∧ w'.cell? ⟨bu, ou + 8, none⟩ = some (.int .i64 y3) ∧ w'.cell? ⟨bu, ou + 9, none⟩ = some (.int .i64 y4) ∧ w'.cell? ⟨b1, 0, none⟩ = some (.int .i64 A) ∧ w'.cell? ⟨b1, 1, none⟩ = some (.int .i64 B) ∧ w'.cell? ⟨b2, 0, none⟩ = some (.int .i64 C) ∧ w'.cell? ⟨b2, 1, none⟩ = some (.int .i64 D) := ⟨h.c (bz, 0, .int .i64 r0) (by simp), h.c (bz, 1, .int .i64 r1) (by simp), h.c (bz, 2, .int .i64 r2) (by simp), h.c (bz, 3, .int .i64 r3) (by simp), h.c (bz, 4, .int .i64 r4) (by simp), h.c (bx, 0, .int .i64 p0) (by simp), h.c (bx, 1, .int .i64 p1) (by simp), h.c (bx, 2, .int .i64 p2) (by simp), h.c (bx, 3, .int .i64 p3) (by simp), h.c (bx, 4, .int .i64 p4) (by simp), h.c (bu, ou, .int .i64 x0) (by simp), h.c (bu, ou + 1, .int .i64 x1) (by simp), h.c (bu, ou + 2, .int .i64 x2) (by simp), h.c (bu, ou + 3, .int .i64 x3) (by simp), h.c (bu, ou + 4, .int .i64 x4) (by simp), h.c (bu, ou + 5, .int .i64 y0) (by simp), h.c (bu, ou + 6, .int .i64 y1) (by simp), h.c (bu, ou + 7, .int .i64 y2) (by simp), h.c (bu, ou + 8, .int .i64 y3) (by simp), h.c (bu, ou + 9, .int .i64 y4) (by simp), h.c (b1, 0, .int .i64 A) (by simp), h.c (b1, 1, .int .i64 B) (by simp), h.c (b2, 0, .int .i64 C) (by simp), h.c (b2, 1, .int .i64 D) (by simp)⟩
theorem K_X3.zs {x0 x1 x2 x3 x4 y0 y1 y2 y3 y4 A B C D p0 p1 p2 p3 p4 r0 r1 r2 r3 r4 : Int} {bx bz bu ou b1 b2 : Nat} {w w' : World} (h : K_X3 x0 x1 x2 x3 x4 y0 y1 y2 y3 y4 A B C D p0 p1 p2 p3 p4 r0 r1 r2 r3 r4 bx bz bu ou b1 b2 w w') : bz < w'.heap.size ∧ bx < w'.heap.size ∧ bu < w'.heap.size ∧ b1 < w'.heap.size ∧ b2 < w'.heap.size ∧ True := ⟨KL.z h (x := (bz, 0, .int .i64 r0)) (by simp), KL.z h (x := (bx, 0, .int .i64 p0)) (by simp), KL.z h (x := (bu, ou, .int .i64 x0)) (by simp), KL.z h (x := (b1, 0, .int .i64 A)) (by simp), KL.z h (x := (b2, 0, .int .i64 C)) (by simp), trivial⟩
theorem K_X3.ks {x0 x1 x2 x3 x4 y0 y1 y2 y3 y4 A B C D p0 p1 p2 p3 p4 r0 r1 r2 r3 r4 : Int} {bx bz bu ou b1 b2 : Nat} {w w' : World} (h : K_X3 x0 x1 x2 x3 x4 y0 y1 y2 y3 y4 A B C D p0 p1 p2 p3 p4 r0 r1 r2 r3 r4 bx bz bu ou b1 b2 w w') : (w'.cell? ⟨bz, 0, none⟩ = some (.int .i64 r0) ∧ w'.cell? ⟨bz, 1, none⟩ = some (.int .i64 r1) ∧ w'.cell? ⟨bz, 2, none⟩ = some (.int .i64 r2) ∧ w'.cell? ⟨bz, 3, none⟩ = some (.int .i64 r3) ∧ w'.cell? ⟨bz, 4, none⟩ = some (.int .i64 r4) ∧ w'.cell? ⟨bx, 0, none⟩ = some (.int .i64 p0) ∧ w'.cell? ⟨bx, 1, none⟩ = some (.int .i64 p1) ∧ w'.cell? ⟨bx, 2, none⟩ = some (.int .i64 p2) ∧ w'.cell? ⟨bx, 3, none⟩ = some (.int .i64 p3) ∧ w'.cell? ⟨bx, 4, none⟩ = some (.int .i64 p4) ∧ w'.cell? ⟨bu, ou, none⟩ = some (.int .i64 x0) ∧ w'.cell? ⟨bu, ou + 1, none⟩ = some (.int .i64 x1) ∧ w'.cell? ⟨bu, ou + 2, none⟩ = some (.int .i64 x2) ∧ w'.cell? ⟨bu, ou + 3, none⟩ = some (.int .i64 x3) ∧ w'.cell? ⟨bu, ou + 4, none⟩ = some (.int .i64 x4) ∧ w'.cell? ⟨bu, ou + 5, none⟩ = some (.int .i64 y0) ∧ w'.cell? ⟨bu, ou + 6, none⟩ = some (.int .i64 y1) ∧ w'.cell? ⟨bu, ou + 7, none⟩ = some (.int .i64 y2) ∧ w'.cell? ⟨bu, ou + 8, none⟩ = some (.int .i64 y3) ∧ w'.cell? ⟨bu, ou + 9, none⟩ = some (.int .i64 y4) ∧ w'.cell? ⟨b1, 0, none⟩ = some (.int .i64 A) ∧ w'.cell? ⟨b1, 1, none⟩ = some (.int .i64 B) ∧ w'.cell? ⟨b2, 0, none⟩ = some (.int .i64 C) ∧ w'.cell? ⟨b2, 1, none⟩ = some (.int .i64 D)) ∧ K_X3 x0 x1 x2 x3 x4 y0 y1 y2 y3 y4 A B C D p0 p1 p2 p3 p4 r0 r1 r2 r3 r4 bx bz bu ou b1 b2 w w' := ⟨h.cells, h⟩
set_option maxHeartbeats 3200000 in
theorem rIso_len (A B C D : Int) (L : Option Addr) (n c : Nat) (w : World) (hn : n ≠ 2) :
    Calls Tryd.prog 46 #[.agg #[.int .i64 A, .int .i64 B], .agg #[.int .i64 C, .int .i64 D], .slice L n c] w fun e w' => e = .returned (.int .i64 9) ∧ Below w.heap.size w w' := by
  have ht : ((n : Int) != 2) = true := by rw [bne_iff_ne]; omega
  go_enter Tryd.func46, Tryd.ntmps46
  go_wp2
  go_ret
  exact ⟨rfl, by (repeat (first | (with_reducible exact Below.refl _ _) | (with_reducible exact HB.out) | (with_reducible refine below_draws ?_ _) | (with_reducible refine Below.alloc ?_ (by go_size) _) | (with_reducible refine Below.setCell ?_ (by go_size) _) | (with_reducible refine Below.alloc ?_ (by simp <;> omega) _) | (with_reducible refine Below.setCell ?_ (by simp <;> omega) _)))⟩
set_option maxHeartbeats 3200000 in
theorem rIso_x (A B C D x0 x1 x2 x3 x4 y0 y1 y2 y3 y4 : Int) (b o c : Nat) (w : World) (h : K_U2 x0 x1 x2 x3 x4 y0 y1 y2 y3 y4 b o w w) (hc : 2 ≤ c) (hc' : c ≤ 9223372036854775807) (hx : chkQ x0 x1 x2 x3 x4 ≠ 0) :
    Calls Tryd.prog 46 #[.agg #[.int .i64 A, .int .i64 B], .agg #[.int .i64 C, .int .i64 D], .slice (some ⟨b, o, none⟩) 2 c] w fun e w' => e = .returned (.int .i64 (chkQ x0 x1 x2 x3 x4)) ∧ Below w.heap.size w w' := by
  have ht : (chkQ x0 x1 x2 x3 x4 != 0) = true := by rw [bne_iff_ne]; exact hx
  clear hx
  have hk : K_X1 x0 x1 x2 x3 x4 y0 y1 y2 y3 y4 A B C D b o w.heap.size (w.heap.size + 1) w ((w.alloc (.cells #[.int .i64 A, .int .i64 B] 23)).alloc (.cells #[.int .i64 C, .int .i64 D] 23)) := by
    have h2 : KL w _ _ _ := KL.push2 (KL.push2 h A B 23 _ rfl) C D 23 (w.heap.size + 1) (by simp)
    exact ⟨fun x hx => h2.c x (by simp only [List.mem_cons, List.not_mem_nil, or_false] at hx ⊢; grind), by simp, by simp, h2.bel⟩
  have hU := h
  clear h
  obtain ⟨c0_, c1_, c2_, c3_, c4_, c5_, c6_, c7_, c8_, c9_⟩ := K_U2.cells hU
  obtain ⟨z0_, -⟩ := K_U2.zs hU
  go_enter Tryd.func46, Tryd.ntmps46
  go_wp2
  refine wp_loop_rounds 1 ?_
  rw [rounds_succ]
  go_wp2_with fail
  refine (rCheckQuat_any _ _ _ _ _ _).mono ?_
  rintro e w1 ⟨rfl, hb⟩
  clear c0_ c1_ c2_ c3_ c4_ c5_ c6_ c7_ c8_ c9_ z0_
  clear hU
  have hK := K_X1.below hb hk
  clear hb hk
  go_wp2
  go_ret
  exact ⟨rfl, K_X1.bel hK⟩
set_option maxHeartbeats 3200000 in
theorem rIso_y (A B C D x0 x1 x2 x3 x4 y0 y1 y2 y3 y4 : Int) (b o c : Nat) (w : World) (h : K_U2 x0 x1 x2 x3 x4 y0 y1 y2 y3 y4 b o w w) (hc : 2 ≤ c) (hc' : c ≤ 9223372036854775807) (hx : chkQ x0 x1 x2 x3 x4 = 0) (hy : chkQ y0 y1 y2 y3 y4 ≠ 0) :
    Calls Tryd.prog 46 #[.agg #[.int .i64 A, .int .i64 B], .agg #[.int .i64 C, .int .i64 D], .slice (some ⟨b, o, none⟩) 2 c] w fun e w' => e = .returned (.int .i64 (chkQ y0 y1 y2 y3 y4)) ∧ Below w.heap.size w w' := by
  have ht : (chkQ y0 y1 y2 y3 y4 != 0) = true := by rw [bne_iff_ne]; exact hy
  have HX := Lib.hid hx
  clear hx hy
  have hk : K_X1 x0 x1 x2 x3 x4 y0 y1 y2 y3 y4 A B C D b o w.heap.size (w.heap.size + 1) w ((w.alloc (.cells #[.int .i64 A, .int .i64 B] 23)).alloc (.cells #[.int .i64 C, .int .i64 D] 23)) := by
    have h2 : KL w _ _ _ := KL.push2 (KL.push2 h A B 23 _ rfl) C D 23 (w.heap.size + 1) (by simp)
    exact ⟨fun x hx => h2.c x (by simp only [List.mem_cons, List.not_mem_nil, or_false] at hx ⊢; grind), by simp, by simp, h2.bel⟩
  have hU := h
  clear h
  obtain ⟨c0_, c1_, c2_, c3_, c4_, c5_, c6_, c7_, c8_, c9_⟩ := K_U2.cells hU
  obtain ⟨z0_, -⟩ := K_U2.zs hU
  go_enter Tryd.func46, Tryd.ntmps46
  go_wp2
  refine wp_loop_rounds 2 ?_
  rw [rounds_succ]
  go_wp2_with fail
  refine (rCheckQuat_any _ _ _ _ _ _).mono ?_
  rintro e w1 ⟨rfl, hb⟩
  clear c0_ c1_ c2_ c3_ c4_ c5_ c6_ c7_ c8_ c9_ z0_
  clear hU
  have hK := K_X1.below hb hk
  clear hb hk
  rw [HX.out]
  obtain ⟨c0_, c1_, c2_, c3_, c4_, c5_, c6_, c7_, c8_, c9_, c10_, c11_, c12_, c13_⟩ := K_X1.cells hK; obtain ⟨z0_, z1_, z2_, -⟩ := K_X1.zs hK; have HK := Lib.hid hK; clear hK
  go_wp2
  rw [rounds_succ]
  go_wp2_with fail
  refine (rCheckQuat_any _ _ _ _ _ _).mono ?_
  rintro e w2 ⟨rfl, hb⟩
  clear c0_ c1_ c2_ c3_ c4_ c5_ c6_ c7_ c8_ c9_ c10_ c11_ c12_ c13_ z0_ z1_ z2_
  have hK := K_X1.below hb HK.out
  clear hb HK
  go_wp2
  go_ret
  exact ⟨rfl, K_X1.bel hK⟩
set_option maxHeartbeats 12800000 in
theorem rIso_two (A B C D x0 x1 x2 x3 x4 y0 y1 y2 y3 y4 p0 p1 p2 p3 p4 r0 r1 r2 r3 r4 : Int) (s1 s2 s3 : Bool) (b o c : Nat) (w : World) (h : K_U2 x0 x1 x2 x3 x4 y0 y1 y2 y3 y4 b o w w) (hc : 2 ≤ c) (hc' : c ≤ 9223372036854775807) (hx : chkQ x0 x1 x2 x3 x4 = 0) (hy : chkQ y0 y1 y2 y3 y4 = 0)
    (N1 : Hid (∀ W : World, Calls Tryd.prog 14 #[.agg #[.int .i64 x0, .int .i64 x1, .int .i64 x2, .int .i64 x3, .int .i64 x4]] W fun e w' => e = .returned (.agg #[.int .i64 p0, .int .i64 p1, .int .i64 p2, .int .i64 p3, .int .i64 p4]) ∧ Below W.heap.size W w'))
    (N2 : Hid (∀ W : World, Calls Tryd.prog 14 #[.agg #[.int .i64 y0, .int .i64 y1, .int .i64 y2, .int .i64 y3, .int .i64 y4]] W fun e w' => e = .returned (.agg #[.int .i64 r0, .int .i64 r1, .int .i64 r2, .int .i64 r3, .int .i64 r4]) ∧ Below W.heap.size W w'))
    (R1 : Hid (∀ W : World, Calls Tryd.prog 75 #[.agg #[.int .i64 C, .int .i64 D], .agg #[.int .i64 p0, .int .i64 p1, .int .i64 p2, .int .i64 p3, .int .i64 p4], .int .i64 A] W fun e w' => e = .returned (.bool s1) ∧ Below W.heap.size W w'))
    (R2 : Hid (∀ W : World, Calls Tryd.prog 75 #[.agg #[.int .i64 C, .int .i64 D], .agg #[.int .i64 r0, .int .i64 r1, .int .i64 r2, .int .i64 r3, .int .i64 r4], .int .i64 B] W fun e w' => e = .returned (.bool s2) ∧ Below W.heap.size W w'))
    (R3 : Hid (∀ W : World, Calls Tryd.prog 76 #[.agg #[.int .i64 C, .int .i64 D], .agg #[.int .i64 p0, .int .i64 p1, .int .i64 p2, .int .i64 p3, .int .i64 p4], .agg #[.int .i64 r0, .int .i64 r1, .int .i64 r2, .int .i64 r3, .int .i64 r4]] W fun e w' => e = .returned (.bool s3) ∧ Below W.heap.size W w')) :
    Calls Tryd.prog 46 #[.agg #[.int .i64 A, .int .i64 B], .agg #[.int .i64 C, .int .i64 D], .slice (some ⟨b, o, none⟩) 2 c] w fun e w' => e = .returned (.int .i64 (if s1 && (s2 && s3) then 0 else 18)) ∧ Below w.heap.size w w' := by
  have HX := Lib.hid hx
  have HY := Lib.hid hy
  clear hx hy
  have hk : K_X1 x0 x1 x2 x3 x4 y0 y1 y2 y3 y4 A B C D b o w.heap.size (w.heap.size + 1) w ((w.alloc (.cells #[.int .i64 A, .int .i64 B] 23)).alloc (.cells #[.int .i64 C, .int .i64 D] 23)) := by
    have h2 : KL w _ _ _ := KL.push2 (KL.push2 h A B 23 _ rfl) C D 23 (w.heap.size + 1) (by simp)
    exact ⟨fun x hx => h2.c x (by simp only [List.mem_cons, List.not_mem_nil, or_false] at hx ⊢; grind), by simp, by simp, h2.bel⟩
  have hU := h
  clear h
  obtain ⟨c0_, c1_, c2_, c3_, c4_, c5_, c6_, c7_, c8_, c9_⟩ := K_U2.cells hU
  obtain ⟨z0_, -⟩ := K_U2.zs hU
  go_enter Tryd.func46, Tryd.ntmps46
  go_wp2
  refine wp_loop_rounds 3 ?_
  rw [rounds_succ]
  go_wp2_with fail
  refine (rCheckQuat_any _ _ _ _ _ _).mono ?_
  rintro e w1 ⟨rfl, hb⟩
  clear c0_ c1_ c2_ c3_ c4_ c5_ c6_ c7_ c8_ c9_ z0_
  clear hU
  have hK := K_X1.below hb hk
  clear hb hk
  rw [HX.out]
  obtain ⟨c0_, c1_, c2_, c3_, c4_, c5_, c6_, c7_, c8_, c9_, c10_, c11_, c12_, c13_⟩ := K_X1.cells hK; obtain ⟨z0_, z1_, z2_, -⟩ := K_X1.zs hK; have HK := Lib.hid hK; clear hK
  go_wp2
  rw [rounds_succ]
  go_wp2_with fail
  refine (rCheckQuat_any _ _ _ _ _ _).mono ?_
  rintro e wr ⟨rfl, hb⟩
  rw [HY.out]
  clear c0_ c1_ c2_ c3_ c4_ c5_ c6_ c7_ c8_ c9_ c10_ c11_ c12_ c13_ z0_ z1_ z2_
  have hK := K_X1.below hb HK.out
  clear hb HK
  obtain ⟨c0_, c1_, c2_, c3_, c4_, c5_, c6_, c7_, c8_, c9_, c10_, c11_, c12_, c13_⟩ := K_X1.cells hK; obtain ⟨z0_, z1_, z2_, -⟩ := K_X1.zs hK; have HK := Lib.hid hK; clear hK
  go_wp2
  rw [rounds_succ]
  go_wp2_with fail
  have hk := HK.out
  clear c0_ c1_ c2_ c3_ c4_ c5_ c6_ c7_ c8_ c9_ c10_ c11_ c12_ c13_ z0_ z1_ z2_
  clear HK
  obtain ⟨y0_, y1_, y2_, -⟩ := K_X1.zs hk
  refine merge_rest2 (K := fun p q w9 => K_X3 x0 x1 x2 x3 x4 y0 y1 y2 y3 y4 A B C D p0 p1 p2 p3 p4 r0 r1 r2 r3 r4 p q b o w.heap.size (w.heap.size + 1) w w9) ?G ?main ?rest
  case main =>
    intro REST
    go_region_held3 (fun w' => (w'.cell? ⟨b, o, none⟩ = some (.int .i64 x0) ∧ w'.cell? ⟨b, o + 1, none⟩ = some (.int .i64 x1) ∧ w'.cell? ⟨b, o + 2, none⟩ = some (.int .i64 x2) ∧ w'.cell? ⟨b, o + 3, none⟩ = some (.int .i64 x3) ∧ w'.cell? ⟨b, o + 4, none⟩ = some (.int .i64 x4) ∧ w'.cell? ⟨b, o + 5, none⟩ = some (.int .i64 y0) ∧ w'.cell? ⟨b, o + 6, none⟩ = some (.int .i64 y1) ∧ w'.cell? ⟨b, o + 7, none⟩ = some (.int .i64 y2) ∧ w'.cell? ⟨b, o + 8, none⟩ = some (.int .i64 y3) ∧ w'.cell? ⟨b, o + 9, none⟩ = some (.int .i64 y4) ∧ w'.cell? ⟨w.heap.size, 0, none⟩ = some (.int .i64 A) ∧ w'.cell? ⟨w.heap.size, 1, none⟩ = some (.int .i64 B) ∧ w'.cell? ⟨(w.heap.size + 1), 0, none⟩ = some (.int .i64 C) ∧ w'.cell? ⟨(w.heap.size + 1), 1, none⟩ = some (.int .i64 D)) ∧ K_X1 x0 x1 x2 x3 x4 y0 y1 y2 y3 y4 A B C D b o w.heap.size (w.heap.size + 1) w w') ((refine K_X1.ks ?_; repeat (first | (with_reducible assumption) | (with_reducible refine K_X1.draws _ ?_) | (with_reducible refine K_X1.drew ?_) | (with_reducible refine K_X1.alloc _ ?_) | (with_reducible refine K_X1.set ?_ _ _ _ (by omega)))))
      (first
        | (go_at_call 14; (with_reducible refine (N1.out _).mono ?_); rintro e w' ⟨rfl, hbel⟩; have hk' := K_X1.below hbel (And.right (by assumption)); obtain ⟨z0_, z1_, z2_, -⟩ := K_X1.zs hk'; (first
            | (have hz : K_Q6 0 0 0 0 0 0 0 0 0 0 wr.heap.size (wr.heap.size + 1) w w' := KL.below hbel (KL.draws 1 (KL.push5w (KL.push5w (KL.sub1 hk) 0 0 0 0 0 _ _ rfl) 0 0 0 0 0 _ _ (by simp))); obtain ⟨t1_, t0_, -⟩ := K_Q6.zs hz)
            | (have hz : K_Q6 0 0 0 0 0 0 0 0 0 0 wr.heap.size (wr.heap.size + 1) w w' := KL.below hbel (KL.push5w (KL.push5w (KL.sub1 hk) 0 0 0 0 0 _ _ rfl) 0 0 0 0 0 _ _ (by simp)); obtain ⟨t1_, t0_, -⟩ := K_Q6.zs hz)
            | (have hz : K_Q5 0 0 0 0 0 wr.heap.size w w' := KL.below hbel (KL.draws 1 (KL.push5w (KL.sub1 hk) 0 0 0 0 0 _ _ rfl)); obtain ⟨t0_, -⟩ := K_Q5.zs hz)
            | (have hz : K_Q5 0 0 0 0 0 wr.heap.size w w' := KL.below hbel (KL.push5w (KL.sub1 hk) 0 0 0 0 0 _ _ rfl); obtain ⟨t0_, -⟩ := K_Q5.zs hz)
            | skip))
        | (go_at_call 14; (with_reducible refine (N2.out _).mono ?_); have hold := hk'; rintro e w'' ⟨rfl, hbel2⟩; have hk2 := K_X1.below hbel2 (And.right (by assumption)); obtain ⟨x0_, x1_, x2_, -⟩ := K_X1.zs hk2; (first
            | (have hz2 : K_Q6 0 0 0 0 0 0 0 0 0 0 wr.heap.size (wr.heap.size + 1) w w'' := KL.below hbel2 hz; obtain ⟨c0_, c1_, c2_, c3_, c4_, c5_, c6_, c7_, c8_, c9_, f0_, f1_, f2_, f3_, f4_, f5_, f6_, f7_, f8_, f9_⟩ := K_Q6.cells hz2; obtain ⟨v0_, v1_, -⟩ := K_Q6.zs hz2)
            | (have hz2 : K_Q6 0 0 0 0 0 0 0 0 0 0 wr.heap.size w'.heap.size w w'' := KL.below hbel2 (KL.push5w hz 0 0 0 0 0 _ _ rfl); obtain ⟨c0_, c1_, c2_, c3_, c4_, c5_, c6_, c7_, c8_, c9_, f0_, f1_, f2_, f3_, f4_, f5_, f6_, f7_, f8_, f9_⟩ := K_Q6.cells hz2; obtain ⟨v0_, v1_, -⟩ := K_Q6.zs hz2)
            | (have hz2 : K_Q5 0 0 0 0 0 wr.heap.size w w'' := KL.below hbel2 hz; obtain ⟨c0_, c1_, c2_, c3_, c4_, f0_, f1_, f2_, f3_, f4_⟩ := K_Q5.cells hz2; obtain ⟨v0_, -⟩ := K_Q5.zs hz2)
            | (have hz2 : K_Q6 0 0 0 0 0 0 0 0 0 0 w'.heap.size (w'.heap.size + 1) w w'' := KL.below hbel2 (KL.push5w (KL.push5w (KL.sub1 hold) 0 0 0 0 0 _ _ rfl) 0 0 0 0 0 _ _ (by simp)); obtain ⟨c0_, c1_, c2_, c3_, c4_, c5_, c6_, c7_, c8_, c9_, f0_, f1_, f2_, f3_, f4_, f5_, f6_, f7_, f8_, f9_⟩ := K_Q6.cells hz2; obtain ⟨v0_, v1_, -⟩ := K_Q6.zs hz2)
            | (have hz2 : K_Q5 0 0 0 0 0 w'.heap.size w w'' := KL.below hbel2 (KL.push5w (KL.sub1 hold) 0 0 0 0 0 _ _ rfl); obtain ⟨c0_, c1_, c2_, c3_, c4_, f0_, f1_, f2_, f3_, f4_⟩ := K_Q5.cells hz2; obtain ⟨v0_, -⟩ := K_Q5.zs hz2)
            | skip)))
    · rename_i hh
      clear hh
      have hK : K_X3 x0 x1 x2 x3 x4 y0 y1 y2 y3 y4 A B C D p0 p1 p2 p3 p4 r0 r1 r2 r3 r4 w''.heap.size (w''.heap.size + 1) b o w.heap.size (w.heap.size + 1) w ((w''.alloc (.cells #[.int .i64 p0, .int .i64 p1, .int .i64 p2, .int .i64 p3, .int .i64 p4] 25)).alloc (.cells #[.int .i64 r0, .int .i64 r1, .int .i64 r2, .int .i64 r3, .int .i64 r4] 25)) := KL.push5 (KL.push5 hk2 p0 p1 p2 p3 p4 _ _ rfl) r0 r1 r2 r3 r4 _ _ (by simp)
      generalize ((w''.alloc (.cells #[.int .i64 p0, .int .i64 p1, .int .i64 p2, .int .i64 p3, .int .i64 p4] 25)).alloc (.cells #[.int .i64 r0, .int .i64 r1, .int .i64 r2, .int .i64 r3, .int .i64 r4] 25)) = w9 at hK ⊢
      generalize w''.heap.size + 1 = q at hK ⊢
      generalize w''.heap.size = p at hK ⊢
      exact REST.out _ _ _ hK
    all_goals
      rename_i hh
      first
        | exact REST.out w'.heap.size w''.heap.size _ (KL.cons5g (KL.cons5g hh.2 w'.heap.size p0 p1 p2 p3 p4 (by simp [go_sem, *])) w''.heap.size r0 r1 r2 r3 r4 (by simp [go_sem, *]))
        | exact REST.out wr.heap.size w''.heap.size _ (KL.cons5g (KL.cons5g hh.2 wr.heap.size p0 p1 p2 p3 p4 (by simp [go_sem, *])) w''.heap.size r0 r1 r2 r3 r4 (by simp [go_sem, *]))
        | exact REST.out wr.heap.size w'.heap.size _ (KL.cons5g (KL.cons5g hh.2 wr.heap.size p0 p1 p2 p3 p4 (by simp [go_sem, *])) w'.heap.size r0 r1 r2 r3 r4 (by simp [go_sem, *]))
        | exact REST.out w'.heap.size (w'.heap.size + 1) _ (KL.cons5g (KL.cons5g hh.2 w'.heap.size p0 p1 p2 p3 p4 (by simp [go_sem, *])) (w'.heap.size + 1) r0 r1 r2 r3 r4 (by simp [go_sem, *]))
        | exact REST.out wr.heap.size (wr.heap.size + 1) _ (KL.cons5g (KL.cons5g hh.2 wr.heap.size p0 p1 p2 p3 p4 (by simp [go_sem, *])) (wr.heap.size + 1) r0 r1 r2 r3 r4 (by simp [go_sem, *]))
        | exact REST.out w''.heap.size w'.heap.size _ (KL.cons5g (KL.cons5g hh.2 w''.heap.size p0 p1 p2 p3 p4 (by simp [go_sem, *])) w'.heap.size r0 r1 r2 r3 r4 (by simp [go_sem, *]))
        | exact REST.out w''.heap.size wr.heap.size _ (KL.cons5g (KL.cons5g hh.2 w''.heap.size p0 p1 p2 p3 p4 (by simp [go_sem, *])) wr.heap.size r0 r1 r2 r3 r4 (by simp [go_sem, *]))
        | exact REST.out w'.heap.size wr.heap.size _ (KL.cons5g (KL.cons5g hh.2 w'.heap.size p0 p1 p2 p3 p4 (by simp [go_sem, *])) wr.heap.size r0 r1 r2 r3 r4 (by simp [go_sem, *]))
        | exact REST.out (w'.heap.size + 1) w'.heap.size _ (KL.cons5g (KL.cons5g hh.2 (w'.heap.size + 1) p0 p1 p2 p3 p4 (by simp [go_sem, *])) w'.heap.size r0 r1 r2 r3 r4 (by simp [go_sem, *]))
        | exact REST.out (wr.heap.size + 1) wr.heap.size _ (KL.cons5g (KL.cons5g hh.2 (wr.heap.size + 1) p0 p1 p2 p3 p4 (by simp [go_sem, *])) wr.heap.size r0 r1 r2 r3 r4 (by simp [go_sem, *]))
        | exact REST.out (w''.heap.size + 1) w''.heap.size _ (KL.cons5g (KL.cons5g hh.2 (w''.heap.size + 1) p0 p1 p2 p3 p4 (by simp [go_sem, *])) w''.heap.size r0 r1 r2 r3 r4 (by simp [go_sem, *]))
  case rest =>
  clear hk y0_ y1_ y2_
  intro ba bb w3 hK
  rcases s1 with _ | _
  · obtain ⟨c0_, c1_, c2_, c3_, c4_, c5_, c6_, c7_, c8_, c9_, c10_, c11_, c12_, c13_, c14_, c15_, c16_, c17_, c18_, c19_, c20_, c21_, c22_, c23_⟩ := K_X3.cells hK; obtain ⟨z0_, z1_, z2_, z3_, z4_, -⟩ := K_X3.zs hK; have HK := Lib.hid hK; clear hK
    go_wp2_with fail
    refine (R1.out _).mono ?_
    rintro e w4 ⟨rfl, hb⟩
    clear c0_ c1_ c2_ c3_ c4_ c5_ c6_ c7_ c8_ c9_ c10_ c11_ c12_ c13_ c14_ c15_ c16_ c17_ c18_ c19_ c20_ c21_ c22_ c23_ z0_ z1_ z2_ z3_ z4_
    have hK := K_X3.below hb HK.out
    clear hb HK
    obtain ⟨c0_, c1_, c2_, c3_, c4_, c5_, c6_, c7_, c8_, c9_, c10_, c11_, c12_, c13_, c14_, c15_, c16_, c17_, c18_, c19_, c20_, c21_, c22_, c23_⟩ := K_X3.cells hK; obtain ⟨z0_, z1_, z2_, z3_, z4_, -⟩ := K_X3.zs hK; have HK := Lib.hid hK; clear hK
    go_wp2
    go_ret
    exact ⟨rfl, K_X3.bel HK.out⟩
  rcases s2 with _ | _
  · obtain ⟨c0_, c1_, c2_, c3_, c4_, c5_, c6_, c7_, c8_, c9_, c10_, c11_, c12_, c13_, c14_, c15_, c16_, c17_, c18_, c19_, c20_, c21_, c22_, c23_⟩ := K_X3.cells hK; obtain ⟨z0_, z1_, z2_, z3_, z4_, -⟩ := K_X3.zs hK; have HK := Lib.hid hK; clear hK
    go_wp2_with fail
    refine (R1.out _).mono ?_
    rintro e w4 ⟨rfl, hb⟩
    clear c0_ c1_ c2_ c3_ c4_ c5_ c6_ c7_ c8_ c9_ c10_ c11_ c12_ c13_ c14_ c15_ c16_ c17_ c18_ c19_ c20_ c21_ c22_ c23_ z0_ z1_ z2_ z3_ z4_
    have hK := K_X3.below hb HK.out
    clear hb HK
    obtain ⟨c0_, c1_, c2_, c3_, c4_, c5_, c6_, c7_, c8_, c9_, c10_, c11_, c12_, c13_, c14_, c15_, c16_, c17_, c18_, c19_, c20_, c21_, c22_, c23_⟩ := K_X3.cells hK; obtain ⟨z0_, z1_, z2_, z3_, z4_, -⟩ := K_X3.zs hK; have HK := Lib.hid hK; clear hK
    go_wp2_with fail
    refine (R2.out _).mono ?_
    rintro e w5 ⟨rfl, hb⟩
    clear c0_ c1_ c2_ c3_ c4_ c5_ c6_ c7_ c8_ c9_ c10_ c11_ c12_ c13_ c14_ c15_ c16_ c17_ c18_ c19_ c20_ c21_ c22_ c23_ z0_ z1_ z2_ z3_ z4_
    have hK := K_X3.below hb HK.out
    clear hb HK
    obtain ⟨c0_, c1_, c2_, c3_, c4_, c5_, c6_, c7_, c8_, c9_, c10_, c11_, c12_, c13_, c14_, c15_, c16_, c17_, c18_, c19_, c20_, c21_, c22_, c23_⟩ := K_X3.cells hK; obtain ⟨z0_, z1_, z2_, z3_, z4_, -⟩ := K_X3.zs hK; have HK := Lib.hid hK; clear hK
    go_wp2
    go_ret
    exact ⟨rfl, K_X3.bel HK.out⟩
  rcases s3 with _ | _
  all_goals
    obtain ⟨c0_, c1_, c2_, c3_, c4_, c5_, c6_, c7_, c8_, c9_, c10_, c11_, c12_, c13_, c14_, c15_, c16_, c17_, c18_, c19_, c20_, c21_, c22_, c23_⟩ := K_X3.cells hK; obtain ⟨z0_, z1_, z2_, z3_, z4_, -⟩ := K_X3.zs hK; have HK := Lib.hid hK; clear hK
    go_wp2_with fail
    refine (R1.out _).mono ?_
    rintro e w4 ⟨rfl, hb⟩
    clear c0_ c1_ c2_ c3_ c4_ c5_ c6_ c7_ c8_ c9_ c10_ c11_ c12_ c13_ c14_ c15_ c16_ c17_ c18_ c19_ c20_ c21_ c22_ c23_ z0_ z1_ z2_ z3_ z4_
    have hK := K_X3.below hb HK.out
    clear hb HK
    obtain ⟨c0_, c1_, c2_, c3_, c4_, c5_, c6_, c7_, c8_, c9_, c10_, c11_, c12_, c13_, c14_, c15_, c16_, c17_, c18_, c19_, c20_, c21_, c22_, c23_⟩ := K_X3.cells hK; obtain ⟨z0_, z1_, z2_, z3_, z4_, -⟩ := K_X3.zs hK; have HK := Lib.hid hK; clear hK
    go_wp2_with fail
    refine (R2.out _).mono ?_
    rintro e w5 ⟨rfl, hb⟩
    clear c0_ c1_ c2_ c3_ c4_ c5_ c6_ c7_ c8_ c9_ c10_ c11_ c12_ c13_ c14_ c15_ c16_ c17_ c18_ c19_ c20_ c21_ c22_ c23_ z0_ z1_ z2_ z3_ z4_
    have hK := K_X3.below hb HK.out
    clear hb HK
    obtain ⟨c0_, c1_, c2_, c3_, c4_, c5_, c6_, c7_, c8_, c9_, c10_, c11_, c12_, c13_, c14_, c15_, c16_, c17_, c18_, c19_, c20_, c21_, c22_, c23_⟩ := K_X3.cells hK; obtain ⟨z0_, z1_, z2_, z3_, z4_, -⟩ := K_X3.zs hK; have HK := Lib.hid hK; clear hK
    go_wp2_with fail
    refine (R3.out _).mono ?_
    rintro e w6 ⟨rfl, hb⟩
    clear c0_ c1_ c2_ c3_ c4_ c5_ c6_ c7_ c8_ c9_ c10_ c11_ c12_ c13_ c14_ c15_ c16_ c17_ c18_ c19_ c20_ c21_ c22_ c23_ z0_ z1_ z2_ z3_ z4_
    have hK := K_X3.below hb HK.out
    clear hb HK
    obtain ⟨c0_, c1_, c2_, c3_, c4_, c5_, c6_, c7_, c8_, c9_, c10_, c11_, c12_, c13_, c14_, c15_, c16_, c17_, c18_, c19_, c20_, c21_, c22_, c23_⟩ := K_X3.cells hK; obtain ⟨z0_, z1_, z2_, z3_, z4_, -⟩ := K_X3.zs hK; have HK := Lib.hid hK; clear hK
    go_wp2
    go_ret
    exact ⟨rfl, K_X3.bel HK.out⟩
end Go.Proofs.YtjloanplhbbomaaDoor.Al
