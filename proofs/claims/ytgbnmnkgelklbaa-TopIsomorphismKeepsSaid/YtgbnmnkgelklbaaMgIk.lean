/-
  What the found pair is; what small elements and their product are.
  WALK of the law TopIsomorphismKeeps: past the guards.
  WALK of the law TopIsomorphismKeeps: the images.
  The law TopIsomorphismKeeps, whole.
-/
import Derived.Test.YtgbnmnkgelklbaaIk3
import Derived.Test.YtgbnmnkgelklbaaTmr
import Derived.Test.YtgbnmnkgelklbaaMgIv
import Derived.Test.YtgbnmnkgelklbaaIk4
import Derived.Test.YtgbnmnkgelklbaaAlN
namespace Go.Proofs.Ytgbnmnkgelklbaa.Ik
open Go.RowKit
open Alm Al Go.Proofs.Ytgbnmnkgelklbaa.Iso
set_option linter.unusedVariables false
theorem pair_of {A B C D : Int} {x y : Q} (h : ff (tnB C D) (Dl (pf C D A) 2) (Dl (pf C D B) 2) = some (x, y)) : Bx x ∧ Bx y ∧ Iso A B C D x y := by
  obtain ⟨h1, h2, h3⟩ := ff_mem h
  obtain ⟨a0, a1, a2, a3, a4, a5⟩ := Dl_mem h1
  obtain ⟨b0, b1, b2, b3, b4, b5⟩ := Dl_mem h2
  unfold pf at a5 b5
  rw [Bool.and_eq_true] at a5 b5
  have a6 := a5.2
  have b6 := b5.2
  unfold sqB at a6 b6
  unfold tnB at h3
  simp only [Bool.and_eq_true, beq_iff_eq] at a6 b6 h3
  have p1 := a6.1
  have p2 := b6.1
  have p3 := h3.1
  unfold pw at p1 p2 p3
  rw [a0] at p1 p3
  rw [b0] at p2 p3
  refine ⟨⟨a0, a1, a2, a3, a4⟩, ⟨b0, b1, b2, b3, b4⟩, by omega, by omega, a0, b0, ?_, ?_, ?_⟩
  · rw [← p1]; grind
  · rw [← p2]; grind
  · have e : C * y.x * x.x + D * y.y * x.y - C * D * y.z * x.z = C * x.x * y.x + D * x.y * y.y - C * D * x.z * y.z := by grind
    have p4 : C * x.x * y.x + D * x.y * y.y - C * D * x.z * y.z = (C * y.x * x.x + D * y.y * x.y - C * D * y.z * x.z) * -1 := by simpa using p3
    rw [e] at p4
    generalize C * x.x * y.x + D * x.y * y.y - C * D * x.z * y.z = t at p4 ⊢
    omega
theorem tny_bd {n0 n1 n2 n3 d : Int} (h : Tm.tnyB n0 n1 n2 n3 d = true) : (-3 ≤ n0 ∧ n0 ≤ 3) ∧ (-3 ≤ n1 ∧ n1 ≤ 3) ∧ (-3 ≤ n2 ∧ n2 ≤ 3) ∧ (-3 ≤ n3 ∧ n3 ≤ 3) ∧ 1 ≤ d ∧ d ≤ 3 := by
  unfold Tm.tnyB Al.withinB at h
  simp only [Bool.and_eq_true, decide_eq_true_eq] at h
  omega
/-- a small element -/
structure Ty (q : Q) : Prop where
  w : -3 ≤ q.w ∧ q.w ≤ 3
  x : -3 ≤ q.x ∧ q.x ≤ 3
  y : -3 ≤ q.y ∧ q.y ≤ 3
  z : -3 ≤ q.z ∧ q.z ≤ 3
  d : 1 ≤ q.d ∧ q.d ≤ 3
theorem Ty.sm {q : Q} (h : Ty q) : Sm q := by
  obtain ⟨h0, h1, h2, h3, h4⟩ := h
  exact ⟨by omega, by omega, by omega, by omega, by omega⟩
theorem Ty.chk {q : Q} (h : Ty q) : chkQ q.w q.x q.y q.z q.d = 0 := by
  obtain ⟨h0, h1, h2, h3, h4⟩ := h
  refine chk_of ?_
  unfold qB qin
  exact decide_eq_true ⟨⟨by omega, by omega⟩, ⟨by omega, by omega⟩, ⟨by omega, by omega⟩, ⟨by omega, by omega⟩, by omega, by omega⟩
theorem nine {a b : Int} (h : -3 ≤ a ∧ a ≤ 3) (k : -3 ≤ b ∧ b ≤ 3) : -9 ≤ a * b ∧ a * b ≤ 9 := by
  have := pr 3 3 h k
  simpa using this
theorem tm {c a b : Int} (hc : -12 ≤ c ∧ c ≤ 12) (h : -3 ≤ a ∧ a ≤ 3) (k : -3 ≤ b ∧ b ≤ 3) : -108 ≤ c * a * b ∧ c * a * b ≤ 108 := by
  have := pr 36 3 (pr 12 3 hc h) k
  simpa using this
theorem tm2 {c e a b : Int} (hc : -12 ≤ c ∧ c ≤ 12) (he : -12 ≤ e ∧ e ≤ 12) (h : -3 ≤ a ∧ a ≤ 3) (k : -3 ≤ b ∧ b ≤ 3) : -1296 ≤ c * e * a * b ∧ c * e * a * b ≤ 1296 := by
  have := pr 432 3 (pr 144 3 (pr 12 12 hc he) h) k
  simpa using this
theorem tx {c a b e f : Int} (hc : -12 ≤ c ∧ c ≤ 12) (ha : -3 ≤ a ∧ a ≤ 3) (hb : -3 ≤ b ∧ b ≤ 3) (he : -3 ≤ e ∧ e ≤ 3) (hf : -3 ≤ f ∧ f ≤ 3) : -216 ≤ c * (a * b - e * f) ∧ c * (a * b - e * f) ≤ 216 := by
  have k1 := nine ha hb
  have k2 := nine he hf
  have := pr 12 18 hc (show -18 ≤ a * b - e * f ∧ a * b - e * f ≤ 18 by omega)
  simpa using this
theorem mul_sm {A B : Int} {p q : Q} (hA : -12 ≤ A ∧ A ≤ 12) (hB : -12 ≤ B ∧ B ≤ 12) (hp : Ty p) (hq : Ty q) : Sm (mulq A B p q) := by
  obtain ⟨p0, p1, p2, p3, p4⟩ := hp
  obtain ⟨q0, q1, q2, q3, q4⟩ := hq
  have d1 : 1 ≤ p.d * q.d := Int.mul_pos (by omega) (by omega)
  have d2 := nine (show -3 ≤ p.d ∧ p.d ≤ 3 by omega) (show -3 ≤ q.d ∧ q.d ≤ 3 by omega)
  refine ⟨?_, ?_, ?_, ?_, d1, d2.2⟩
  · have a := nine p0 q0
    have b := tm hA p1 q1
    have c := tm hB p2 q2
    have d := tm2 hA hB p3 q3
    simp only [mulq, pw]
    omega
  · have a := nine p0 q1
    have b := nine p1 q0
    have c := tx hB p3 q2 p2 q3
    simp only [mulq, px]
    omega
  · have a := nine p0 q2
    have b := nine p2 q0
    have c := tx hA p1 q3 p3 q1
    simp only [mulq, py]
    omega
  · have a := nine p0 q3
    have b := nine p3 q0
    have c := nine p1 q2
    have d := nine p2 q1
    simp only [mulq, pz]
    omega
theorem Sm.low {q : Q} (h : Sm q) : Sm q.low := by
  obtain ⟨h0, h1, h2, h3, h4⟩ := h
  obtain ⟨l1, l2, l3, l4, l5, l6⟩ := low_le q (by omega)
  exact ⟨by omega, by omega, by omega, by omega, by omega⟩
theorem Sm.fit {q : Q} (h : Sm q) : qB q.low = true := by
  obtain ⟨h0, h1, h2, h3, h4⟩ := h
  exact qB_low (by omega) (by omega) (by omega) (by omega) (by omega)
end Go.Proofs.Ytgbnmnkgelklbaa.Ik
namespace Go.Proofs.Ytgbnmnkgelklbaa.Ik
open Go.RowKit
open Alm Al
set_option linter.unusedVariables false
set_option linter.unusedSimpArgs false
set_option maxRecDepth 100000
set_option maxHeartbeats 12800000 in
theorem keeps_no (A B C D p0 p1 p2 p3 p4 q0 q1 q2 q3 q4 : Int) (x y : Q) (e0 : Int) (bo : Bool) (w : World) (e1 : (chkA A B != 0) = false) (e2 : (chkA C D != 0) = false) (e3 : decide ((12 : Int) < (A.natAbs : Int)) = false) (e4 : decide ((12 : Int) < (B.natAbs : Int)) = false) (e5 : decide ((12 : Int) < (C.natAbs : Int)) = false) (e6 : decide ((12 : Int) < (D.natAbs : Int)) = false) (e7 : Tm.tnyB p0 p1 p2 p3 p4 = true) (e8 : Tm.tnyB q0 q1 q2 q3 q4 = true)
    (IS : Hid (∀ W : World, Calls Try.prog 16 #[.agg #[.int .i64 A, .int .i64 B], .agg #[.int .i64 C, .int .i64 D]] W fun e w' => e = .returned (.tuple #[.agg #[.int .i64 (x).w, .int .i64 (x).x, .int .i64 (x).y, .int .i64 (x).z, .int .i64 (x).d], .agg #[.int .i64 (y).w, .int .i64 (y).x, .int .i64 (y).y, .int .i64 (y).z, .int .i64 (y).d], .int .i64 e0]) ∧ Below W.heap.size W w'))
    (IC : Hid (∀ W : World, Calls Try.prog 17 #[.agg #[.int .i64 A, .int .i64 B], .agg #[.int .i64 C, .int .i64 D]] W fun e w' => e = .returned (.tuple #[.bool bo, .int .i64 0]) ∧ Below W.heap.size W w'))
    (he : (e0 = 12 ∧ bo = false) ∨ (e0 = 21 ∧ bo = true))
    (bA : -9223372036854775807 ≤ A ∧ -9223372036854775807 ≤ B ∧ -9223372036854775807 ≤ C ∧ -9223372036854775807 ≤ D) : Calls Try.prog 4 #[.agg #[.int .i64 A, .int .i64 B], .agg #[.int .i64 C, .int .i64 D], .agg #[.int .i64 p0, .int .i64 p1, .int .i64 p2, .int .i64 p3, .int .i64 p4, .int .i64 q0, .int .i64 q1, .int .i64 q2, .int .i64 q3, .int .i64 q4]] w fun e w' => e = .returned (.bool true) ∧ Below w.heap.size w w' := by
  obtain ⟨g1, g2, g3, g4⟩ := bA
  rcases he with ⟨rfl, rfl⟩ | ⟨rfl, rfl⟩
  all_goals
    go_enter Try.func4, Try.ntmps4
    go_wp2_with fail
    refine (Tm.ramifies_any _).mono ?_
    rintro e w1 ⟨rfl, hb⟩
    have hK : K_T0 A B C D p0 p1 p2 p3 p4 q0 q1 q2 q3 q4 w.heap.size (w.heap.size + 1) (w.heap.size + 2) w w1 := K_T0.below hb ⟨by simp [go_sem], by simp, by simp, by (repeat (first | (with_reducible exact Below.refl _ _) | (with_reducible exact HB.out) | (with_reducible refine below_draws ?_ _) | (with_reducible refine Below.alloc ?_ (by go_size) _) | (with_reducible refine Below.setCell ?_ (by go_size) _) | (with_reducible refine Below.alloc ?_ (by simp <;> omega) _) | (with_reducible refine Below.setCell ?_ (by simp <;> omega) _)))⟩
    clear hb
    obtain ⟨c0_, c1_, c2_, c3_, c4_, c5_, c6_, c7_, c8_, c9_, c10_, c11_, c12_, c13_⟩ := K_T0.cells hK; obtain ⟨z0_, z1_, z2_, -⟩ := K_T0.zs hK; have HK := Lib.hid hK; clear hK
    go_wp2_with (first
      | (go_at_call 7; (with_reducible refine (rCheck_any _ _ _).mono ?_); rintro e w' ⟨rfl, hb⟩; clear c0_ c1_ c2_ c3_ c4_ c5_ c6_ c7_ c8_ c9_ c10_ c11_ c12_ c13_ z0_ z1_ z2_; have hK := K_T0.below hb HK.out; clear hb HK; obtain ⟨c0_, c1_, c2_, c3_, c4_, c5_, c6_, c7_, c8_, c9_, c10_, c11_, c12_, c13_⟩ := K_T0.cells hK; obtain ⟨z0_, z1_, z2_, -⟩ := K_T0.zs hK; have HK := Lib.hid hK; clear hK)
      | (go_at_call 14; (with_reducible refine (Abs_any _ _ (by assumption)).mono ?_); rintro e w' ⟨rfl, rfl⟩)
      | (go_at_call 15; (with_reducible refine (Tm.tiny_any _ _ _ _ _ _).mono ?_); rintro e w' ⟨rfl, hb⟩; clear c0_ c1_ c2_ c3_ c4_ c5_ c6_ c7_ c8_ c9_ c10_ c11_ c12_ c13_ z0_ z1_ z2_; have hK := K_T0.below hb HK.out; clear hb HK; obtain ⟨c0_, c1_, c2_, c3_, c4_, c5_, c6_, c7_, c8_, c9_, c10_, c11_, c12_, c13_⟩ := K_T0.cells hK; obtain ⟨z0_, z1_, z2_, -⟩ := K_T0.zs hK; have HK := Lib.hid hK; clear hK))
    refine (IS.out _).mono ?_
    rintro e w3 ⟨rfl, hb⟩
    clear c0_ c1_ c2_ c3_ c4_ c5_ c6_ c7_ c8_ c9_ c10_ c11_ c12_ c13_ z0_ z1_ z2_
    have hK := K_T0.below hb HK.out
    clear hb HK
    obtain ⟨c0_, c1_, c2_, c3_, c4_, c5_, c6_, c7_, c8_, c9_, c10_, c11_, c12_, c13_⟩ := K_T0.cells hK; obtain ⟨z0_, z1_, z2_, -⟩ := K_T0.zs hK; have HK := Lib.hid hK; clear hK
    go_wp2_with fail
    clear c0_ c1_ c2_ c3_ c4_ c5_ c6_ c7_ c8_ c9_ c10_ c11_ c12_ c13_ z0_ z1_ z2_
    have hk1 := KL.push5 HK.out x.w x.x x.y x.z x.d 35 _ rfl
    have hh := KL.push5 hk1 y.w y.x y.y y.z y.d 35 _ rfl
    clear HK hk1
    refine (IC.out _).mono ?_
    rintro e w4 ⟨rfl, hb⟩
    have hh := KL.below hb hh
    have hK : K_T1 A B C D p0 p1 p2 p3 p4 q0 q1 q2 q3 q4 x.w x.x x.y x.z x.d y.w y.x y.y y.z y.d w.heap.size (w.heap.size + 1) (w.heap.size + 2) w3.heap.size (w3.heap.size + 1) w w4 := ⟨fun v hv => hh.c v (by simp only [List.mem_cons, List.not_mem_nil, or_false] at hv; rcases hv with rfl | rfl | rfl | rfl | rfl | rfl | rfl | rfl | rfl | rfl | rfl | rfl | rfl | rfl | rfl | rfl | rfl | rfl | rfl | rfl | rfl | rfl | rfl | rfl <;> simp), hh.g, hh.f, hh.bel⟩
    clear hb hh
    obtain ⟨c0_, c1_, c2_, c3_, c4_, c5_, c6_, c7_, c8_, c9_, c10_, c11_, c12_, c13_, c14_, c15_, c16_, c17_, c18_, c19_, c20_, c21_, c22_, c23_⟩ := K_T1.cells hK; obtain ⟨z0_, z1_, z2_, z3_, z4_, -⟩ := K_T1.zs hK; have HK := Lib.hid hK; clear hK
    go_wp2_with fail
    go_ret
    exact ⟨by simp [*], K_T1.bel HK.out⟩
end Go.Proofs.Ytgbnmnkgelklbaa.Ik
namespace Go.Proofs.Ytgbnmnkgelklbaa.Ik
open Go.RowKit
open Alm Al
set_option linter.unusedVariables false
set_option linter.unusedSimpArgs false
set_option maxRecDepth 100000
/-- what a walk keeps: cells, and that nothing that was there has turned -/
def K_T7 (A B C D p0 p1 p2 p3 p4 q0 q1 q2 q3 q4 x0 x1 x2 x3 x4 y0 y1 y2 y3 y4 m0 m1 m2 m3 m4 u0 u1 u2 u3 u4 v0 v1 v2 v3 v4 s0 s1 s2 s3 s4 t0 t1 t2 t3 t4 n0 n1 : Int) (ba bb bl kx ky km ku kv ks kt kn : Nat) (w w' : World) : Prop := KL w [(ba, 0, .int .i64 A), (ba, 1, .int .i64 B), (bb, 0, .int .i64 C), (bb, 1, .int .i64 D), (bl, 0, .int .i64 p0), (bl, 1, .int .i64 p1), (bl, 2, .int .i64 p2), (bl, 3, .int .i64 p3), (bl, 4, .int .i64 p4), (bl, 5, .int .i64 q0), (bl, 6, .int .i64 q1), (bl, 7, .int .i64 q2), (bl, 8, .int .i64 q3), (bl, 9, .int .i64 q4), (kx, 0, .int .i64 x0), (kx, 1, .int .i64 x1), (kx, 2, .int .i64 x2), (kx, 3, .int .i64 x3), (kx, 4, .int .i64 x4), (ky, 0, .int .i64 y0), (ky, 1, .int .i64 y1), (ky, 2, .int .i64 y2), (ky, 3, .int .i64 y3), (ky, 4, .int .i64 y4), (km, 0, .int .i64 m0), (km, 1, .int .i64 m1), (km, 2, .int .i64 m2), (km, 3, .int .i64 m3), (km, 4, .int .i64 m4), (ku, 0, .int .i64 u0), (ku, 1, .int .i64 u1), (ku, 2, .int .i64 u2), (ku, 3, .int .i64 u3), (ku, 4, .int .i64 u4), (kv, 0, .int .i64 v0), (kv, 1, .int .i64 v1), (kv, 2, .int .i64 v2), (kv, 3, .int .i64 v3), (kv, 4, .int .i64 v4), (ks, 0, .int .i64 s0), (ks, 1, .int .i64 s1), (ks, 2, .int .i64 s2), (ks, 3, .int .i64 s3), (ks, 4, .int .i64 s4), (kt, 0, .int .i64 t0), (kt, 1, .int .i64 t1), (kt, 2, .int .i64 t2), (kt, 3, .int .i64 t3), (kt, 4, .int .i64 t4), (kn, 0, .int .i64 n0), (kn, 1, .int .i64 n1)] [] w'
theorem K_T7.below {A B C D p0 p1 p2 p3 p4 q0 q1 q2 q3 q4 x0 x1 x2 x3 x4 y0 y1 y2 y3 y4 m0 m1 m2 m3 m4 u0 u1 u2 u3 u4 v0 v1 v2 v3 v4 s0 s1 s2 s3 s4 t0 t1 t2 t3 t4 n0 n1 : Int} {ba bb bl kx ky km ku kv ks kt kn : Nat} {w w1 w2 : World} (hb : Below w1.heap.size w1 w2) (h : K_T7 A B C D p0 p1 p2 p3 p4 q0 q1 q2 q3 q4 x0 x1 x2 x3 x4 y0 y1 y2 y3 y4 m0 m1 m2 m3 m4 u0 u1 u2 u3 u4 v0 v1 v2 v3 v4 s0 s1 s2 s3 s4 t0 t1 t2 t3 t4 n0 n1 ba bb bl kx ky km ku kv ks kt kn w w1) : K_T7 A B C D p0 p1 p2 p3 p4 q0 q1 q2 q3 q4 x0 x1 x2 x3 x4 y0 y1 y2 y3 y4 m0 m1 m2 m3 m4 u0 u1 u2 u3 u4 v0 v1 v2 v3 v4 s0 s1 s2 s3 s4 t0 t1 t2 t3 t4 n0 n1 ba bb bl kx ky km ku kv ks kt kn w w2 := KL.below hb h
theorem K_T7.draws {A B C D p0 p1 p2 p3 p4 q0 q1 q2 q3 q4 x0 x1 x2 x3 x4 y0 y1 y2 y3 y4 m0 m1 m2 m3 m4 u0 u1 u2 u3 u4 v0 v1 v2 v3 v4 s0 s1 s2 s3 s4 t0 t1 t2 t3 t4 n0 n1 : Int} {ba bb bl kx ky km ku kv ks kt kn : Nat} {w w1 : World} (n : Nat) (h : K_T7 A B C D p0 p1 p2 p3 p4 q0 q1 q2 q3 q4 x0 x1 x2 x3 x4 y0 y1 y2 y3 y4 m0 m1 m2 m3 m4 u0 u1 u2 u3 u4 v0 v1 v2 v3 v4 s0 s1 s2 s3 s4 t0 t1 t2 t3 t4 n0 n1 ba bb bl kx ky km ku kv ks kt kn w w1) : K_T7 A B C D p0 p1 p2 p3 p4 q0 q1 q2 q3 q4 x0 x1 x2 x3 x4 y0 y1 y2 y3 y4 m0 m1 m2 m3 m4 u0 u1 u2 u3 u4 v0 v1 v2 v3 v4 s0 s1 s2 s3 s4 t0 t1 t2 t3 t4 n0 n1 ba bb bl kx ky km ku kv ks kt kn w (w1.drewN n) := KL.draws n h
theorem K_T7.drew {A B C D p0 p1 p2 p3 p4 q0 q1 q2 q3 q4 x0 x1 x2 x3 x4 y0 y1 y2 y3 y4 m0 m1 m2 m3 m4 u0 u1 u2 u3 u4 v0 v1 v2 v3 v4 s0 s1 s2 s3 s4 t0 t1 t2 t3 t4 n0 n1 : Int} {ba bb bl kx ky km ku kv ks kt kn : Nat} {w w1 : World} (h : K_T7 A B C D p0 p1 p2 p3 p4 q0 q1 q2 q3 q4 x0 x1 x2 x3 x4 y0 y1 y2 y3 y4 m0 m1 m2 m3 m4 u0 u1 u2 u3 u4 v0 v1 v2 v3 v4 s0 s1 s2 s3 s4 t0 t1 t2 t3 t4 n0 n1 ba bb bl kx ky km ku kv ks kt kn w w1) : K_T7 A B C D p0 p1 p2 p3 p4 q0 q1 q2 q3 q4 x0 x1 x2 x3 x4 y0 y1 y2 y3 y4 m0 m1 m2 m3 m4 u0 u1 u2 u3 u4 v0 v1 v2 v3 v4 s0 s1 s2 s3 s4 t0 t1 t2 t3 t4 n0 n1 ba bb bl kx ky km ku kv ks kt kn w w1.drew := KL.draws 1 h
theorem K_T7.alloc {A B C D p0 p1 p2 p3 p4 q0 q1 q2 q3 q4 x0 x1 x2 x3 x4 y0 y1 y2 y3 y4 m0 m1 m2 m3 m4 u0 u1 u2 u3 u4 v0 v1 v2 v3 v4 s0 s1 s2 s3 s4 t0 t1 t2 t3 t4 n0 n1 : Int} {ba bb bl kx ky km ku kv ks kt kn : Nat} {w w1 : World} (o : Obj) (h : K_T7 A B C D p0 p1 p2 p3 p4 q0 q1 q2 q3 q4 x0 x1 x2 x3 x4 y0 y1 y2 y3 y4 m0 m1 m2 m3 m4 u0 u1 u2 u3 u4 v0 v1 v2 v3 v4 s0 s1 s2 s3 s4 t0 t1 t2 t3 t4 n0 n1 ba bb bl kx ky km ku kv ks kt kn w w1) : K_T7 A B C D p0 p1 p2 p3 p4 q0 q1 q2 q3 q4 x0 x1 x2 x3 x4 y0 y1 y2 y3 y4 m0 m1 m2 m3 m4 u0 u1 u2 u3 u4 v0 v1 v2 v3 v4 s0 s1 s2 s3 s4 t0 t1 t2 t3 t4 n0 n1 ba bb bl kx ky km ku kv ks kt kn w (w1.alloc o) := KL.alloc o h
theorem K_T7.bel {A B C D p0 p1 p2 p3 p4 q0 q1 q2 q3 q4 x0 x1 x2 x3 x4 y0 y1 y2 y3 y4 m0 m1 m2 m3 m4 u0 u1 u2 u3 u4 v0 v1 v2 v3 v4 s0 s1 s2 s3 s4 t0 t1 t2 t3 t4 n0 n1 : Int} {ba bb bl kx ky km ku kv ks kt kn : Nat} {w w1 : World} (h : K_T7 A B C D p0 p1 p2 p3 p4 q0 q1 q2 q3 q4 x0 x1 x2 x3 x4 y0 y1 y2 y3 y4 m0 m1 m2 m3 m4 u0 u1 u2 u3 u4 v0 v1 v2 v3 v4 s0 s1 s2 s3 s4 t0 t1 t2 t3 t4 n0 n1 ba bb bl kx ky km ku kv ks kt kn w w1) : Below w.heap.size w w1 := KL.bel h
theorem K_T7.cells {A B C D p0 p1 p2 p3 p4 q0 q1 q2 q3 q4 x0 x1 x2 x3 x4 y0 y1 y2 y3 y4 m0 m1 m2 m3 m4 u0 u1 u2 u3 u4 v0 v1 v2 v3 v4 s0 s1 s2 s3 s4 t0 t1 t2 t3 t4 n0 n1 : Int} {ba bb bl kx ky km ku kv ks kt kn : Nat} {w w' : World} (h : K_T7 A B C D p0 p1 p2 p3 p4 q0 q1 q2 q3 q4 x0 x1 x2 x3 x4 y0 y1 y2 y3 y4 m0 m1 m2 m3 m4 u0 u1 u2 u3 u4 v0 v1 v2 v3 v4 s0 s1 s2 s3 s4 t0 t1 t2 t3 t4 n0 n1 ba bb bl kx ky km ku kv ks kt kn w w') : w'.cell? ⟨ba, 0, none⟩ = some (.int .i64 A) ∧ w'.cell? ⟨ba, 1, none⟩ = some (.int .i64 B) ∧ w'.cell? ⟨bb, 0, none⟩ = some (.int .i64 C) ∧ w'.cell? ⟨bb, 1, none⟩ = some (.int .i64 D) ∧ w'.cell? ⟨bl, 0, none⟩ = some (.int .i64 p0) ∧ w'.cell? ⟨bl, 1, none⟩ = some (.int .i64 p1) ∧ w'.cell? ⟨bl, 2, none⟩ = some (.int .i64 p2) ∧ w'.cell? ⟨bl, 3, none⟩ = some (.int .i64 p3) ∧ w'.cell? ⟨bl, 4, none⟩ = some (.int .i64 p4) ∧ w'.cell? ⟨bl, 5, none⟩ = some (.int .i64 q0) ∧ w'.cell? ⟨bl, 6, none⟩ = some (.int .i64 q1) ∧ w'.cell? ⟨bl, 7, none⟩ = some (.int .i64 q2) ∧ w'.cell? ⟨bl, 8, none⟩ = some (.int .i64 q3) ∧ w'.cell? ⟨bl, 9, none⟩ = some (.int .i64 q4) ∧ w'.cell? ⟨kx, 0, none⟩ = some (.int .i64 x0) ∧ w'.cell? ⟨kx, 1, none⟩ = some (.int .i64 x1) ∧ w'.cell? ⟨kx, 2, none⟩ = some (.int .i64 x2) ∧ w'.cell? ⟨kx, 3, none⟩ = some (.int .i64 x3) ∧ w'.cell? ⟨kx, 4, none⟩ = some (.int .i64 x4) ∧ w'.cell? ⟨ky, 0, none⟩ = some (.int .i64 y0) ∧ w'.cell? ⟨ky, 1, none⟩ = some (.int .i64 y1) ∧ w'.cell? ⟨ky, 2, none⟩ = some (.int .i64 y2) ∧ w'.cell? ⟨ky, 3, none⟩ = some (.int .i64 y3) ∧ w'.cell? ⟨ky, 4, none⟩ = some (.int .i64 y4) ∧ w'.cell? ⟨km, 0, none⟩ = some (.int .i64 m0) ∧ w'.cell? ⟨km, 1, none⟩ = some (.int .i64 m1) ∧ w'.cell? ⟨km, 2, none⟩ = some (.int .i64 m2) ∧ w'.cell? ⟨km, 3, none⟩ = some (.int .i64 m3) ∧ w'.cell? ⟨km, 4, none⟩ = some (.int .i64 m4) ∧ w'.cell? ⟨ku, 0, none⟩ = some (.int .i64 u0) ∧ w'.cell? ⟨ku, 1, none⟩ = some (.int .i64 u1) ∧ w'.cell? ⟨ku, 2, none⟩ = some (.int .i64 u2) ∧ w'.cell? ⟨ku, 3, none⟩ = some (.int .i64 u3) ∧ w'.cell? ⟨ku, 4, none⟩ = some (.int .i64 u4) ∧ w'.cell? ⟨kv, 0, none⟩ = some (.int .i64 v0) ∧ w'.cell? ⟨kv, 1, none⟩ = some (.int .i64 v1) ∧ w'.cell? ⟨kv, 2, none⟩ = some (.int .i64 v2) ∧ w'.cell? ⟨kv, 3, none⟩ = some (.int .i64 v3) ∧ w'.cell? ⟨kv, 4, none⟩ = some (.int .i64 v4) ∧ w'.cell? ⟨ks, 0, none⟩ = some (.int .i64 s0) ∧ w'.cell? ⟨ks, 1, none⟩ = some (.int .i64 s1) ∧ w'.cell? ⟨ks, 2, none⟩ = some (.int .i64 s2) ∧ w'.cell? ⟨ks, 3, none⟩ = some (.int .i64 s3) ∧ w'.cell? ⟨ks, 4, none⟩ = some (.int .i64 s4) ∧ w'.cell? ⟨kt, 0, none⟩ = some (.int .i64 t0) ∧ w'.cell? ⟨kt, 1, none⟩ = some (.int .i64 t1) ∧ w'.cell? ⟨kt, 2, none⟩ = some (.int .i64 t2) ∧ w'.cell? ⟨kt, 3, none⟩ = some (.int .i64 t3) ∧ w'.cell? ⟨kt, 4, none⟩ = some (.int .i64 t4) ∧ w'.cell? ⟨kn, 0, none⟩ = some (.int .i64 n0) ∧ w'.cell? ⟨kn, 1, none⟩ = some (.int .i64 n1) := ⟨h.c (ba, 0, .int .i64 A) (by simp), h.c (ba, 1, .int .i64 B) (by simp), h.c (bb, 0, .int .i64 C) (by simp), h.c (bb, 1, .int .i64 D) (by simp), h.c (bl, 0, .int .i64 p0) (by simp), h.c (bl, 1, .int .i64 p1) (by simp), h.c (bl, 2, .int .i64 p2) (by simp), h.c (bl, 3, .int .i64 p3) (by simp), h.c (bl, 4, .int .i64 p4) (by simp), h.c (bl, 5, .int .i64 q0) (by simp), h.c (bl, 6, .int .i64 q1) (by simp), h.c (bl, 7, .int .i64 q2) (by simp), h.c (bl, 8, .int .i64 q3) (by simp), h.c (bl, 9, .int .i64 q4) (by simp), h.c (kx, 0, .int .i64 x0) (by simp), h.c (kx, 1, .int .i64 x1) (by simp), h.c (kx, 2, .int .i64 x2) (by simp), h.c (kx, 3, .int .i64 x3) (by simp), h.c (kx, 4, .int .i64 x4) (by simp), h.c (ky, 0, .int .i64 y0) (by simp), h.c (ky, 1, .int .i64 y1) (by simp), h.c (ky, 2, .int .i64 y2) (by simp), h.c (ky, 3, .int .i64 y3) (by simp), h.c (ky, 4, .int .i64 y4) (by simp), h.c (km, 0, .int .i64 m0) (by simp), h.c (km, 1, .int .i64 m1) (by simp), h.c (km, 2, .int .i64 m2) (by simp), h.c (km, 3, .int .i64 m3) (by simp), h.c (km, 4, .int .i64 m4) (by simp), h.c (ku, 0, .int .i64 u0) (by simp), h.c (ku, 1, .int .i64 u1) (by simp), h.c (ku, 2, .int .i64 u2) (by simp), h.c (ku, 3, .int .i64 u3) (by simp), h.c (ku, 4, .int .i64 u4) (by simp), h.c (kv, 0, .int .i64 v0) (by simp), h.c (kv, 1, .int .i64 v1) (by simp), h.c (kv, 2, .int .i64 v2) (by simp), h.c (kv, 3, .int .i64 v3) (by simp), h.c (kv, 4, .int .i64 v4) (by simp), h.c (ks, 0, .int .i64 s0) (by simp), h.c (ks, 1, .int .i64 s1) (by simp), h.c (ks, 2, .int .i64 s2) (by simp), h.c (ks, 3, .int .i64 s3) (by simp), h.c (ks, 4, .int .i64 s4) (by simp), h.c (kt, 0, .int .i64 t0) (by simp), h.c (kt, 1, .int .i64 t1) (by simp), h.c (kt, 2, .int .i64 t2) (by simp), h.c (kt, 3, .int .i64 t3) (by simp), h.c (kt, 4, .int .i64 t4) (by simp), h.c (kn, 0, .int .i64 n0) (by simp), h.c (kn, 1, .int .i64 n1) (by simp)⟩
theorem K_T7.zs {A B C D p0 p1 p2 p3 p4 q0 q1 q2 q3 q4 x0 x1 x2 x3 x4 y0 y1 y2 y3 y4 m0 m1 m2 m3 m4 u0 u1 u2 u3 u4 v0 v1 v2 v3 v4 s0 s1 s2 s3 s4 t0 t1 t2 t3 t4 n0 n1 : Int} {ba bb bl kx ky km ku kv ks kt kn : Nat} {w w' : World} (h : K_T7 A B C D p0 p1 p2 p3 p4 q0 q1 q2 q3 q4 x0 x1 x2 x3 x4 y0 y1 y2 y3 y4 m0 m1 m2 m3 m4 u0 u1 u2 u3 u4 v0 v1 v2 v3 v4 s0 s1 s2 s3 s4 t0 t1 t2 t3 t4 n0 n1 ba bb bl kx ky km ku kv ks kt kn w w') : ba < w'.heap.size ∧ bb < w'.heap.size ∧ bl < w'.heap.size ∧ kx < w'.heap.size ∧ ky < w'.heap.size ∧ km < w'.heap.size ∧ ku < w'.heap.size ∧ kv < w'.heap.size ∧ ks < w'.heap.size ∧ kt < w'.heap.size ∧ kn < w'.heap.size ∧ True := ⟨KL.z h (x := (ba, 0, .int .i64 A)) (by simp), KL.z h (x := (bb, 0, .int .i64 C)) (by simp), KL.z h (x := (bl, 0, .int .i64 p0)) (by simp), KL.z h (x := (kx, 0, .int .i64 x0)) (by simp), KL.z h (x := (ky, 0, .int .i64 y0)) (by simp), KL.z h (x := (km, 0, .int .i64 m0)) (by simp), KL.z h (x := (ku, 0, .int .i64 u0)) (by simp), KL.z h (x := (kv, 0, .int .i64 v0)) (by simp), KL.z h (x := (ks, 0, .int .i64 s0)) (by simp), KL.z h (x := (kt, 0, .int .i64 t0)) (by simp), KL.z h (x := (kn, 0, .int .i64 n0)) (by simp), trivial⟩
theorem K_T7.ks {A B C D p0 p1 p2 p3 p4 q0 q1 q2 q3 q4 x0 x1 x2 x3 x4 y0 y1 y2 y3 y4 m0 m1 m2 m3 m4 u0 u1 u2 u3 u4 v0 v1 v2 v3 v4 s0 s1 s2 s3 s4 t0 t1 t2 t3 t4 n0 n1 : Int} {ba bb bl kx ky km ku kv ks kt kn : Nat} {w w' : World} (h : K_T7 A B C D p0 p1 p2 p3 p4 q0 q1 q2 q3 q4 x0 x1 x2 x3 x4 y0 y1 y2 y3 y4 m0 m1 m2 m3 m4 u0 u1 u2 u3 u4 v0 v1 v2 v3 v4 s0 s1 s2 s3 s4 t0 t1 t2 t3 t4 n0 n1 ba bb bl kx ky km ku kv ks kt kn w w') : (w'.cell? ⟨ba, 0, none⟩ = some (.int .i64 A) ∧ w'.cell? ⟨ba, 1, none⟩ = some (.int .i64 B) ∧ w'.cell? ⟨bb, 0, none⟩ = some (.int .i64 C) ∧ w'.cell? ⟨bb, 1, none⟩ = some (.int .i64 D) ∧ w'.cell? ⟨bl, 0, none⟩ = some (.int .i64 p0) ∧ w'.cell? ⟨bl, 1, none⟩ = some (.int .i64 p1) ∧ w'.cell? ⟨bl, 2, none⟩ = some (.int .i64 p2) ∧ w'.cell? ⟨bl, 3, none⟩ = some (.int .i64 p3) ∧ w'.cell? ⟨bl, 4, none⟩ = some (.int .i64 p4) ∧ w'.cell? ⟨bl, 5, none⟩ = some (.int .i64 q0) ∧ w'.cell? ⟨bl, 6, none⟩ = some (.int .i64 q1) ∧ w'.cell? ⟨bl, 7, none⟩ = some (.int .i64 q2) ∧ w'.cell? ⟨bl, 8, none⟩ = some (.int .i64 q3) ∧ w'.cell? ⟨bl, 9, none⟩ = some (.int .i64 q4) ∧ w'.cell? ⟨kx, 0, none⟩ = some (.int .i64 x0) ∧ w'.cell? ⟨kx, 1, none⟩ = some (.int .i64 x1) ∧ w'.cell? ⟨kx, 2, none⟩ = some (.int .i64 x2) ∧ w'.cell? ⟨kx, 3, none⟩ = some (.int .i64 x3) ∧ w'.cell? ⟨kx, 4, none⟩ = some (.int .i64 x4) ∧ w'.cell? ⟨ky, 0, none⟩ = some (.int .i64 y0) ∧ w'.cell? ⟨ky, 1, none⟩ = some (.int .i64 y1) ∧ w'.cell? ⟨ky, 2, none⟩ = some (.int .i64 y2) ∧ w'.cell? ⟨ky, 3, none⟩ = some (.int .i64 y3) ∧ w'.cell? ⟨ky, 4, none⟩ = some (.int .i64 y4) ∧ w'.cell? ⟨km, 0, none⟩ = some (.int .i64 m0) ∧ w'.cell? ⟨km, 1, none⟩ = some (.int .i64 m1) ∧ w'.cell? ⟨km, 2, none⟩ = some (.int .i64 m2) ∧ w'.cell? ⟨km, 3, none⟩ = some (.int .i64 m3) ∧ w'.cell? ⟨km, 4, none⟩ = some (.int .i64 m4) ∧ w'.cell? ⟨ku, 0, none⟩ = some (.int .i64 u0) ∧ w'.cell? ⟨ku, 1, none⟩ = some (.int .i64 u1) ∧ w'.cell? ⟨ku, 2, none⟩ = some (.int .i64 u2) ∧ w'.cell? ⟨ku, 3, none⟩ = some (.int .i64 u3) ∧ w'.cell? ⟨ku, 4, none⟩ = some (.int .i64 u4) ∧ w'.cell? ⟨kv, 0, none⟩ = some (.int .i64 v0) ∧ w'.cell? ⟨kv, 1, none⟩ = some (.int .i64 v1) ∧ w'.cell? ⟨kv, 2, none⟩ = some (.int .i64 v2) ∧ w'.cell? ⟨kv, 3, none⟩ = some (.int .i64 v3) ∧ w'.cell? ⟨kv, 4, none⟩ = some (.int .i64 v4) ∧ w'.cell? ⟨ks, 0, none⟩ = some (.int .i64 s0) ∧ w'.cell? ⟨ks, 1, none⟩ = some (.int .i64 s1) ∧ w'.cell? ⟨ks, 2, none⟩ = some (.int .i64 s2) ∧ w'.cell? ⟨ks, 3, none⟩ = some (.int .i64 s3) ∧ w'.cell? ⟨ks, 4, none⟩ = some (.int .i64 s4) ∧ w'.cell? ⟨kt, 0, none⟩ = some (.int .i64 t0) ∧ w'.cell? ⟨kt, 1, none⟩ = some (.int .i64 t1) ∧ w'.cell? ⟨kt, 2, none⟩ = some (.int .i64 t2) ∧ w'.cell? ⟨kt, 3, none⟩ = some (.int .i64 t3) ∧ w'.cell? ⟨kt, 4, none⟩ = some (.int .i64 t4) ∧ w'.cell? ⟨kn, 0, none⟩ = some (.int .i64 n0) ∧ w'.cell? ⟨kn, 1, none⟩ = some (.int .i64 n1)) ∧ K_T7 A B C D p0 p1 p2 p3 p4 q0 q1 q2 q3 q4 x0 x1 x2 x3 x4 y0 y1 y2 y3 y4 m0 m1 m2 m3 m4 u0 u1 u2 u3 u4 v0 v1 v2 v3 v4 s0 s1 s2 s3 s4 t0 t1 t2 t3 t4 n0 n1 ba bb bl kx ky km ku kv ks kt kn w w' := ⟨h.cells, h⟩
set_option maxHeartbeats 12800000 in
theorem keeps_go (A B C D p0 p1 p2 p3 p4 q0 q1 q2 q3 q4 : Int) (x y m u v s : Q) (n0 n1 : Int) (w : World) (e1 : (chkA A B != 0) = false) (e2 : (chkA C D != 0) = false) (e3 : decide ((12 : Int) < (A.natAbs : Int)) = false) (e4 : decide ((12 : Int) < (B.natAbs : Int)) = false) (e5 : decide ((12 : Int) < (C.natAbs : Int)) = false) (e6 : decide ((12 : Int) < (D.natAbs : Int)) = false) (e7 : Tm.tnyB p0 p1 p2 p3 p4 = true) (e8 : Tm.tnyB q0 q1 q2 q3 q4 = true)
    (IS : Hid (∀ W : World, Calls Try.prog 16 #[.agg #[.int .i64 A, .int .i64 B], .agg #[.int .i64 C, .int .i64 D]] W fun e w' => e = .returned (.tuple #[.agg #[.int .i64 (x).w, .int .i64 (x).x, .int .i64 (x).y, .int .i64 (x).z, .int .i64 (x).d], .agg #[.int .i64 (y).w, .int .i64 (y).x, .int .i64 (y).y, .int .i64 (y).z, .int .i64 (y).d], .int .i64 0]) ∧ Below W.heap.size W w'))
    (IC : Hid (∀ W : World, Calls Try.prog 17 #[.agg #[.int .i64 A, .int .i64 B], .agg #[.int .i64 C, .int .i64 D]] W fun e w' => e = .returned (.tuple #[.bool true, .int .i64 0]) ∧ Below W.heap.size W w'))
    (MU : Hid (∀ W : World, Calls Try.prog 18 #[.agg #[.int .i64 A, .int .i64 B], .agg #[.int .i64 p0, .int .i64 p1, .int .i64 p2, .int .i64 p3, .int .i64 p4], .agg #[.int .i64 q0, .int .i64 q1, .int .i64 q2, .int .i64 q3, .int .i64 q4]] W fun e w' => e = .returned (.tuple #[.agg #[.int .i64 (m).w, .int .i64 (m).x, .int .i64 (m).y, .int .i64 (m).z, .int .i64 (m).d], .int .i64 0]) ∧ Below W.heap.size W w'))
    (M1 : Hid (∀ W : World, Calls Try.prog 19 #[.agg #[.int .i64 C, .int .i64 D], .agg #[.int .i64 p0, .int .i64 p1, .int .i64 p2, .int .i64 p3, .int .i64 p4], .agg #[.int .i64 (x).w, .int .i64 (x).x, .int .i64 (x).y, .int .i64 (x).z, .int .i64 (x).d], .agg #[.int .i64 (y).w, .int .i64 (y).x, .int .i64 (y).y, .int .i64 (y).z, .int .i64 (y).d]] W fun e w' => e = .returned (.tuple #[.agg #[.int .i64 (u).w, .int .i64 (u).x, .int .i64 (u).y, .int .i64 (u).z, .int .i64 (u).d], .bool true]) ∧ Below W.heap.size W w'))
    (M2 : Hid (∀ W : World, Calls Try.prog 19 #[.agg #[.int .i64 C, .int .i64 D], .agg #[.int .i64 q0, .int .i64 q1, .int .i64 q2, .int .i64 q3, .int .i64 q4], .agg #[.int .i64 (x).w, .int .i64 (x).x, .int .i64 (x).y, .int .i64 (x).z, .int .i64 (x).d], .agg #[.int .i64 (y).w, .int .i64 (y).x, .int .i64 (y).y, .int .i64 (y).z, .int .i64 (y).d]] W fun e w' => e = .returned (.tuple #[.agg #[.int .i64 (v).w, .int .i64 (v).x, .int .i64 (v).y, .int .i64 (v).z, .int .i64 (v).d], .bool true]) ∧ Below W.heap.size W w'))
    (M3 : Hid (∀ W : World, Calls Try.prog 19 #[.agg #[.int .i64 C, .int .i64 D], .agg #[.int .i64 (m).w, .int .i64 (m).x, .int .i64 (m).y, .int .i64 (m).z, .int .i64 (m).d], .agg #[.int .i64 (x).w, .int .i64 (x).x, .int .i64 (x).y, .int .i64 (x).z, .int .i64 (x).d], .agg #[.int .i64 (y).w, .int .i64 (y).x, .int .i64 (y).y, .int .i64 (y).z, .int .i64 (y).d]] W fun e w' => e = .returned (.tuple #[.agg #[.int .i64 (s).w, .int .i64 (s).x, .int .i64 (s).y, .int .i64 (s).z, .int .i64 (s).d], .bool true]) ∧ Below W.heap.size W w'))
    (MV : Hid (∀ W : World, Calls Try.prog 18 #[.agg #[.int .i64 C, .int .i64 D], .agg #[.int .i64 (u).w, .int .i64 (u).x, .int .i64 (u).y, .int .i64 (u).z, .int .i64 (u).d], .agg #[.int .i64 (v).w, .int .i64 (v).x, .int .i64 (v).y, .int .i64 (v).z, .int .i64 (v).d]] W fun e w' => e = .returned (.tuple #[.agg #[.int .i64 (s).w, .int .i64 (s).x, .int .i64 (s).y, .int .i64 (s).z, .int .i64 (s).d], .int .i64 0]) ∧ Below W.heap.size W w'))
    (N1 : Hid (∀ W : World, Calls Try.prog 13 #[.agg #[.int .i64 A, .int .i64 B], .agg #[.int .i64 p0, .int .i64 p1, .int .i64 p2, .int .i64 p3, .int .i64 p4]] W fun e w' => e = .returned (.tuple #[.agg #[.int .i64 n0, .int .i64 n1], .int .i64 0]) ∧ Below W.heap.size W w'))
    (N2 : Hid (∀ W : World, Calls Try.prog 13 #[.agg #[.int .i64 C, .int .i64 D], .agg #[.int .i64 (u).w, .int .i64 (u).x, .int .i64 (u).y, .int .i64 (u).z, .int .i64 (u).d]] W fun e w' => e = .returned (.tuple #[.agg #[.int .i64 n0, .int .i64 n1], .int .i64 0]) ∧ Below W.heap.size W w'))
    (bA : -9223372036854775807 ≤ A ∧ -9223372036854775807 ≤ B ∧ -9223372036854775807 ≤ C ∧ -9223372036854775807 ≤ D) : Calls Try.prog 4 #[.agg #[.int .i64 A, .int .i64 B], .agg #[.int .i64 C, .int .i64 D], .agg #[.int .i64 p0, .int .i64 p1, .int .i64 p2, .int .i64 p3, .int .i64 p4, .int .i64 q0, .int .i64 q1, .int .i64 q2, .int .i64 q3, .int .i64 q4]] w fun e w' => e = .returned (.bool true) ∧ Below w.heap.size w w' := by
  obtain ⟨g1, g2, g3, g4⟩ := bA
  go_enter Try.func4, Try.ntmps4
  go_wp2_with fail
  refine (Tm.ramifies_any _).mono ?_
  rintro e w1 ⟨rfl, hb⟩
  have hK : K_T0 A B C D p0 p1 p2 p3 p4 q0 q1 q2 q3 q4 w.heap.size (w.heap.size + 1) (w.heap.size + 2) w w1 := K_T0.below hb ⟨by simp [go_sem], by simp, by simp, by (repeat (first | (with_reducible exact Below.refl _ _) | (with_reducible exact HB.out) | (with_reducible refine below_draws ?_ _) | (with_reducible refine Below.alloc ?_ (by go_size) _) | (with_reducible refine Below.setCell ?_ (by go_size) _) | (with_reducible refine Below.alloc ?_ (by simp <;> omega) _) | (with_reducible refine Below.setCell ?_ (by simp <;> omega) _)))⟩
  clear hb
  obtain ⟨c0_, c1_, c2_, c3_, c4_, c5_, c6_, c7_, c8_, c9_, c10_, c11_, c12_, c13_⟩ := K_T0.cells hK; obtain ⟨z0_, z1_, z2_, -⟩ := K_T0.zs hK; have HK := Lib.hid hK; clear hK
  go_wp2_with (first
    | (go_at_call 7; (with_reducible refine (rCheck_any _ _ _).mono ?_); rintro e w' ⟨rfl, hb⟩; clear c0_ c1_ c2_ c3_ c4_ c5_ c6_ c7_ c8_ c9_ c10_ c11_ c12_ c13_ z0_ z1_ z2_; have hK := K_T0.below hb HK.out; clear hb HK; obtain ⟨c0_, c1_, c2_, c3_, c4_, c5_, c6_, c7_, c8_, c9_, c10_, c11_, c12_, c13_⟩ := K_T0.cells hK; obtain ⟨z0_, z1_, z2_, -⟩ := K_T0.zs hK; have HK := Lib.hid hK; clear hK)
    | (go_at_call 14; (with_reducible refine (Abs_any _ _ (by assumption)).mono ?_); rintro e w' ⟨rfl, rfl⟩)
    | (go_at_call 15; (with_reducible refine (Tm.tiny_any _ _ _ _ _ _).mono ?_); rintro e w' ⟨rfl, hb⟩; clear c0_ c1_ c2_ c3_ c4_ c5_ c6_ c7_ c8_ c9_ c10_ c11_ c12_ c13_ z0_ z1_ z2_; have hK := K_T0.below hb HK.out; clear hb HK; obtain ⟨c0_, c1_, c2_, c3_, c4_, c5_, c6_, c7_, c8_, c9_, c10_, c11_, c12_, c13_⟩ := K_T0.cells hK; obtain ⟨z0_, z1_, z2_, -⟩ := K_T0.zs hK; have HK := Lib.hid hK; clear hK))
  refine (IS.out _).mono ?_
  rintro e w3 ⟨rfl, hb⟩
  clear c0_ c1_ c2_ c3_ c4_ c5_ c6_ c7_ c8_ c9_ c10_ c11_ c12_ c13_ z0_ z1_ z2_
  have hK := K_T0.below hb HK.out
  clear hb HK
  obtain ⟨c0_, c1_, c2_, c3_, c4_, c5_, c6_, c7_, c8_, c9_, c10_, c11_, c12_, c13_⟩ := K_T0.cells hK; obtain ⟨z0_, z1_, z2_, -⟩ := K_T0.zs hK; have HK := Lib.hid hK; clear hK
  go_wp2_with fail
  clear c0_ c1_ c2_ c3_ c4_ c5_ c6_ c7_ c8_ c9_ c10_ c11_ c12_ c13_ z0_ z1_ z2_
  have hk1 := KL.push5 HK.out x.w x.x x.y x.z x.d 35 _ rfl
  have hh := KL.push5 hk1 y.w y.x y.y y.z y.d 35 _ rfl
  clear HK hk1
  refine (IC.out _).mono ?_
  rintro e w4 ⟨rfl, hb⟩
  have hh := KL.below hb hh
  have hK : K_T1 A B C D p0 p1 p2 p3 p4 q0 q1 q2 q3 q4 x.w x.x x.y x.z x.d y.w y.x y.y y.z y.d w.heap.size (w.heap.size + 1) (w.heap.size + 2) w3.heap.size (w3.heap.size + 1) w w4 := ⟨fun v hv => hh.c v (by simp only [List.mem_cons, List.not_mem_nil, or_false] at hv; rcases hv with rfl | rfl | rfl | rfl | rfl | rfl | rfl | rfl | rfl | rfl | rfl | rfl | rfl | rfl | rfl | rfl | rfl | rfl | rfl | rfl | rfl | rfl | rfl | rfl <;> simp), hh.g, hh.f, hh.bel⟩
  clear hb hh
  obtain ⟨c0_, c1_, c2_, c3_, c4_, c5_, c6_, c7_, c8_, c9_, c10_, c11_, c12_, c13_, c14_, c15_, c16_, c17_, c18_, c19_, c20_, c21_, c22_, c23_⟩ := K_T1.cells hK; obtain ⟨z0_, z1_, z2_, z3_, z4_, -⟩ := K_T1.zs hK; have HK := Lib.hid hK; clear hK
  go_wp2_with fail
  refine (MU.out _).mono ?_
  rintro e w5 ⟨rfl, hb⟩
  clear c0_ c1_ c2_ c3_ c4_ c5_ c6_ c7_ c8_ c9_ c10_ c11_ c12_ c13_ c14_ c15_ c16_ c17_ c18_ c19_ c20_ c21_ c22_ c23_ z0_ z1_ z2_ z3_ z4_
  have hK := K_T1.below hb HK.out
  clear hb HK
  obtain ⟨c0_, c1_, c2_, c3_, c4_, c5_, c6_, c7_, c8_, c9_, c10_, c11_, c12_, c13_, c14_, c15_, c16_, c17_, c18_, c19_, c20_, c21_, c22_, c23_⟩ := K_T1.cells hK; obtain ⟨z0_, z1_, z2_, z3_, z4_, -⟩ := K_T1.zs hK; have HK := Lib.hid hK; clear hK
  go_wp2_with fail
  clear c0_ c1_ c2_ c3_ c4_ c5_ c6_ c7_ c8_ c9_ c10_ c11_ c12_ c13_ c14_ c15_ c16_ c17_ c18_ c19_ c20_ c21_ c22_ c23_ z0_ z1_ z2_ z3_ z4_
  have hh := KL.push5 HK.out m.w m.x m.y m.z m.d 35 _ rfl
  clear HK
  refine (M1.out _).mono ?_
  rintro e w6 ⟨rfl, hb⟩
  have hh := KL.below hb hh
  have hK : K_T2 A B C D p0 p1 p2 p3 p4 q0 q1 q2 q3 q4 x.w x.x x.y x.z x.d y.w y.x y.y y.z y.d m.w m.x m.y m.z m.d w.heap.size (w.heap.size + 1) (w.heap.size + 2) w3.heap.size (w3.heap.size + 1) w5.heap.size w w6 := ⟨fun v hv => hh.c v (by simp only [List.mem_cons, List.not_mem_nil, or_false] at hv; rcases hv with rfl | rfl | rfl | rfl | rfl | rfl | rfl | rfl | rfl | rfl | rfl | rfl | rfl | rfl | rfl | rfl | rfl | rfl | rfl | rfl | rfl | rfl | rfl | rfl | rfl | rfl | rfl | rfl | rfl <;> simp), hh.g, hh.f, hh.bel⟩
  clear hb hh
  obtain ⟨c0_, c1_, c2_, c3_, c4_, c5_, c6_, c7_, c8_, c9_, c10_, c11_, c12_, c13_, c14_, c15_, c16_, c17_, c18_, c19_, c20_, c21_, c22_, c23_, c24_, c25_, c26_, c27_, c28_⟩ := K_T2.cells hK; obtain ⟨z0_, z1_, z2_, z3_, z4_, z5_, -⟩ := K_T2.zs hK; have HK := Lib.hid hK; clear hK
  go_wp2_with fail
  clear c0_ c1_ c2_ c3_ c4_ c5_ c6_ c7_ c8_ c9_ c10_ c11_ c12_ c13_ c14_ c15_ c16_ c17_ c18_ c19_ c20_ c21_ c22_ c23_ c24_ c25_ c26_ c27_ c28_ z0_ z1_ z2_ z3_ z4_ z5_
  have hh := KL.push5 HK.out u.w u.x u.y u.z u.d 35 _ rfl
  clear HK
  refine (M2.out _).mono ?_
  rintro e w7 ⟨rfl, hb⟩
  have hh := KL.below hb hh
  have hK : K_T3 A B C D p0 p1 p2 p3 p4 q0 q1 q2 q3 q4 x.w x.x x.y x.z x.d y.w y.x y.y y.z y.d m.w m.x m.y m.z m.d u.w u.x u.y u.z u.d w.heap.size (w.heap.size + 1) (w.heap.size + 2) w3.heap.size (w3.heap.size + 1) w5.heap.size w6.heap.size w w7 := ⟨fun v hv => hh.c v (by simp only [List.mem_cons, List.not_mem_nil, or_false] at hv; rcases hv with rfl | rfl | rfl | rfl | rfl | rfl | rfl | rfl | rfl | rfl | rfl | rfl | rfl | rfl | rfl | rfl | rfl | rfl | rfl | rfl | rfl | rfl | rfl | rfl | rfl | rfl | rfl | rfl | rfl | rfl | rfl | rfl | rfl | rfl <;> simp), hh.g, hh.f, hh.bel⟩
  clear hb hh
  obtain ⟨c0_, c1_, c2_, c3_, c4_, c5_, c6_, c7_, c8_, c9_, c10_, c11_, c12_, c13_, c14_, c15_, c16_, c17_, c18_, c19_, c20_, c21_, c22_, c23_, c24_, c25_, c26_, c27_, c28_, c29_, c30_, c31_, c32_, c33_⟩ := K_T3.cells hK; obtain ⟨z0_, z1_, z2_, z3_, z4_, z5_, z6_, -⟩ := K_T3.zs hK; have HK := Lib.hid hK; clear hK
  go_wp2_with fail
  clear c0_ c1_ c2_ c3_ c4_ c5_ c6_ c7_ c8_ c9_ c10_ c11_ c12_ c13_ c14_ c15_ c16_ c17_ c18_ c19_ c20_ c21_ c22_ c23_ c24_ c25_ c26_ c27_ c28_ c29_ c30_ c31_ c32_ c33_ z0_ z1_ z2_ z3_ z4_ z5_ z6_
  have hh := KL.push5 HK.out v.w v.x v.y v.z v.d 35 _ rfl
  clear HK
  refine (M3.out _).mono ?_
  rintro e w8 ⟨rfl, hb⟩
  have hh := KL.below hb hh
  have hK : K_T4 A B C D p0 p1 p2 p3 p4 q0 q1 q2 q3 q4 x.w x.x x.y x.z x.d y.w y.x y.y y.z y.d m.w m.x m.y m.z m.d u.w u.x u.y u.z u.d v.w v.x v.y v.z v.d w.heap.size (w.heap.size + 1) (w.heap.size + 2) w3.heap.size (w3.heap.size + 1) w5.heap.size w6.heap.size w7.heap.size w w8 := ⟨fun v hv => hh.c v (by simp only [List.mem_cons, List.not_mem_nil, or_false] at hv; rcases hv with rfl | rfl | rfl | rfl | rfl | rfl | rfl | rfl | rfl | rfl | rfl | rfl | rfl | rfl | rfl | rfl | rfl | rfl | rfl | rfl | rfl | rfl | rfl | rfl | rfl | rfl | rfl | rfl | rfl | rfl | rfl | rfl | rfl | rfl | rfl | rfl | rfl | rfl | rfl <;> simp), hh.g, hh.f, hh.bel⟩
  clear hb hh
  obtain ⟨c0_, c1_, c2_, c3_, c4_, c5_, c6_, c7_, c8_, c9_, c10_, c11_, c12_, c13_, c14_, c15_, c16_, c17_, c18_, c19_, c20_, c21_, c22_, c23_, c24_, c25_, c26_, c27_, c28_, c29_, c30_, c31_, c32_, c33_, c34_, c35_, c36_, c37_, c38_⟩ := K_T4.cells hK; obtain ⟨z0_, z1_, z2_, z3_, z4_, z5_, z6_, z7_, -⟩ := K_T4.zs hK; have HK := Lib.hid hK; clear hK
  go_wp2_with fail
  clear c0_ c1_ c2_ c3_ c4_ c5_ c6_ c7_ c8_ c9_ c10_ c11_ c12_ c13_ c14_ c15_ c16_ c17_ c18_ c19_ c20_ c21_ c22_ c23_ c24_ c25_ c26_ c27_ c28_ c29_ c30_ c31_ c32_ c33_ c34_ c35_ c36_ c37_ c38_ z0_ z1_ z2_ z3_ z4_ z5_ z6_ z7_
  have hh := KL.push5 HK.out s.w s.x s.y s.z s.d 35 _ rfl
  clear HK
  refine (MV.out _).mono ?_
  rintro e w9 ⟨rfl, hb⟩
  have hh := KL.below hb hh
  have hK : K_T5 A B C D p0 p1 p2 p3 p4 q0 q1 q2 q3 q4 x.w x.x x.y x.z x.d y.w y.x y.y y.z y.d m.w m.x m.y m.z m.d u.w u.x u.y u.z u.d v.w v.x v.y v.z v.d s.w s.x s.y s.z s.d w.heap.size (w.heap.size + 1) (w.heap.size + 2) w3.heap.size (w3.heap.size + 1) w5.heap.size w6.heap.size w7.heap.size w8.heap.size w w9 := ⟨fun v hv => hh.c v (by simp only [List.mem_cons, List.not_mem_nil, or_false] at hv; rcases hv with rfl | rfl | rfl | rfl | rfl | rfl | rfl | rfl | rfl | rfl | rfl | rfl | rfl | rfl | rfl | rfl | rfl | rfl | rfl | rfl | rfl | rfl | rfl | rfl | rfl | rfl | rfl | rfl | rfl | rfl | rfl | rfl | rfl | rfl | rfl | rfl | rfl | rfl | rfl | rfl | rfl | rfl | rfl | rfl <;> simp), hh.g, hh.f, hh.bel⟩
  clear hb hh
  obtain ⟨c0_, c1_, c2_, c3_, c4_, c5_, c6_, c7_, c8_, c9_, c10_, c11_, c12_, c13_, c14_, c15_, c16_, c17_, c18_, c19_, c20_, c21_, c22_, c23_, c24_, c25_, c26_, c27_, c28_, c29_, c30_, c31_, c32_, c33_, c34_, c35_, c36_, c37_, c38_, c39_, c40_, c41_, c42_, c43_⟩ := K_T5.cells hK; obtain ⟨z0_, z1_, z2_, z3_, z4_, z5_, z6_, z7_, z8_, -⟩ := K_T5.zs hK; have HK := Lib.hid hK; clear hK
  go_wp2_with fail
  clear c0_ c1_ c2_ c3_ c4_ c5_ c6_ c7_ c8_ c9_ c10_ c11_ c12_ c13_ c14_ c15_ c16_ c17_ c18_ c19_ c20_ c21_ c22_ c23_ c24_ c25_ c26_ c27_ c28_ c29_ c30_ c31_ c32_ c33_ c34_ c35_ c36_ c37_ c38_ c39_ c40_ c41_ c42_ c43_ z0_ z1_ z2_ z3_ z4_ z5_ z6_ z7_ z8_
  have hh := KL.push5 HK.out s.w s.x s.y s.z s.d 35 _ rfl
  clear HK
  refine (N1.out _).mono ?_
  rintro e w10 ⟨rfl, hb⟩
  have hh := KL.below hb hh
  have hK : K_T6 A B C D p0 p1 p2 p3 p4 q0 q1 q2 q3 q4 x.w x.x x.y x.z x.d y.w y.x y.y y.z y.d m.w m.x m.y m.z m.d u.w u.x u.y u.z u.d v.w v.x v.y v.z v.d s.w s.x s.y s.z s.d s.w s.x s.y s.z s.d w.heap.size (w.heap.size + 1) (w.heap.size + 2) w3.heap.size (w3.heap.size + 1) w5.heap.size w6.heap.size w7.heap.size w8.heap.size w9.heap.size w w10 := ⟨fun v hv => hh.c v (by simp only [List.mem_cons, List.not_mem_nil, or_false] at hv; rcases hv with rfl | rfl | rfl | rfl | rfl | rfl | rfl | rfl | rfl | rfl | rfl | rfl | rfl | rfl | rfl | rfl | rfl | rfl | rfl | rfl | rfl | rfl | rfl | rfl | rfl | rfl | rfl | rfl | rfl | rfl | rfl | rfl | rfl | rfl | rfl | rfl | rfl | rfl | rfl | rfl | rfl | rfl | rfl | rfl | rfl | rfl | rfl | rfl | rfl <;> simp), hh.g, hh.f, hh.bel⟩
  clear hb hh
  obtain ⟨c0_, c1_, c2_, c3_, c4_, c5_, c6_, c7_, c8_, c9_, c10_, c11_, c12_, c13_, c14_, c15_, c16_, c17_, c18_, c19_, c20_, c21_, c22_, c23_, c24_, c25_, c26_, c27_, c28_, c29_, c30_, c31_, c32_, c33_, c34_, c35_, c36_, c37_, c38_, c39_, c40_, c41_, c42_, c43_, c44_, c45_, c46_, c47_, c48_⟩ := K_T6.cells hK; obtain ⟨z0_, z1_, z2_, z3_, z4_, z5_, z6_, z7_, z8_, z9_, -⟩ := K_T6.zs hK; have HK := Lib.hid hK; clear hK
  go_wp2_with fail
  clear c0_ c1_ c2_ c3_ c4_ c5_ c6_ c7_ c8_ c9_ c10_ c11_ c12_ c13_ c14_ c15_ c16_ c17_ c18_ c19_ c20_ c21_ c22_ c23_ c24_ c25_ c26_ c27_ c28_ c29_ c30_ c31_ c32_ c33_ c34_ c35_ c36_ c37_ c38_ c39_ c40_ c41_ c42_ c43_ c44_ c45_ c46_ c47_ c48_ z0_ z1_ z2_ z3_ z4_ z5_ z6_ z7_ z8_ z9_
  have hh := KL.push2 HK.out n0 n1 39 _ rfl
  clear HK
  refine (N2.out _).mono ?_
  rintro e w11 ⟨rfl, hb⟩
  have hh := KL.below hb hh
  have hK : K_T7 A B C D p0 p1 p2 p3 p4 q0 q1 q2 q3 q4 x.w x.x x.y x.z x.d y.w y.x y.y y.z y.d m.w m.x m.y m.z m.d u.w u.x u.y u.z u.d v.w v.x v.y v.z v.d s.w s.x s.y s.z s.d s.w s.x s.y s.z s.d n0 n1 w.heap.size (w.heap.size + 1) (w.heap.size + 2) w3.heap.size (w3.heap.size + 1) w5.heap.size w6.heap.size w7.heap.size w8.heap.size w9.heap.size w10.heap.size w w11 := ⟨fun v hv => hh.c v (by simp only [List.mem_cons, List.not_mem_nil, or_false] at hv; rcases hv with rfl | rfl | rfl | rfl | rfl | rfl | rfl | rfl | rfl | rfl | rfl | rfl | rfl | rfl | rfl | rfl | rfl | rfl | rfl | rfl | rfl | rfl | rfl | rfl | rfl | rfl | rfl | rfl | rfl | rfl | rfl | rfl | rfl | rfl | rfl | rfl | rfl | rfl | rfl | rfl | rfl | rfl | rfl | rfl | rfl | rfl | rfl | rfl | rfl | rfl | rfl <;> simp), hh.g, hh.f, hh.bel⟩
  clear hb hh
  obtain ⟨c0_, c1_, c2_, c3_, c4_, c5_, c6_, c7_, c8_, c9_, c10_, c11_, c12_, c13_, c14_, c15_, c16_, c17_, c18_, c19_, c20_, c21_, c22_, c23_, c24_, c25_, c26_, c27_, c28_, c29_, c30_, c31_, c32_, c33_, c34_, c35_, c36_, c37_, c38_, c39_, c40_, c41_, c42_, c43_, c44_, c45_, c46_, c47_, c48_, c49_, c50_⟩ := K_T7.cells hK; obtain ⟨z0_, z1_, z2_, z3_, z4_, z5_, z6_, z7_, z8_, z9_, z10_, -⟩ := K_T7.zs hK; have HK := Lib.hid hK; clear hK
  go_wp2_with fail
  go_ret
  have hB := K_T7.bel HK.out
  refine ⟨by simp, ?_⟩
  first
    | exact hB
    | exact hB.trans ((Below.alloc w11 _).mono hB.size)
    | exact hB.trans (Below.mono (by (repeat (first | (with_reducible exact Below.refl _ _) | (with_reducible exact HB.out) | (with_reducible refine below_draws ?_ _) | (with_reducible refine Below.alloc ?_ (by go_size) _) | (with_reducible refine Below.setCell ?_ (by go_size) _) | (with_reducible refine Below.alloc ?_ (by simp <;> omega) _) | (with_reducible refine Below.setCell ?_ (by simp <;> omega) _)))) hB.size)
end Go.Proofs.Ytgbnmnkgelklbaa.Ik
namespace Go.Proofs.Ytgbnmnkgelklbaa.Ik
open Go.RowKit
open Alm Al Go.Proofs.Ytgbnmnkgelklbaa.Iso
set_option linter.unusedVariables false
set_option linter.unusedSimpArgs false
set_option maxRecDepth 100000
set_option maxHeartbeats 12800000 in
theorem keeps_chk (A B C D p0 p1 p2 p3 p4 q0 q1 q2 q3 q4 : Int) (w : World) (h : (chkA A B != 0) = true ∨ (chkA A B != 0) = false ∧ (chkA C D != 0) = true) : Calls Try.prog 4 #[.agg #[.int .i64 A, .int .i64 B], .agg #[.int .i64 C, .int .i64 D], .agg #[.int .i64 p0, .int .i64 p1, .int .i64 p2, .int .i64 p3, .int .i64 p4, .int .i64 q0, .int .i64 q1, .int .i64 q2, .int .i64 q3, .int .i64 q4]] w fun e w' => e = .returned (.bool true) ∧ Below w.heap.size w w' := by
  rcases h with e1 | ⟨e1, e2⟩
  all_goals
    go_enter Try.func4, Try.ntmps4
    go_wp2_with fail
    refine (Tm.ramifies_any _).mono ?_
    rintro e w1 ⟨rfl, hb⟩
    have hK : K_T0 A B C D p0 p1 p2 p3 p4 q0 q1 q2 q3 q4 w.heap.size (w.heap.size + 1) (w.heap.size + 2) w w1 := K_T0.below hb ⟨by simp [go_sem], by simp, by simp, by (repeat (first | (with_reducible exact Below.refl _ _) | (with_reducible exact HB.out) | (with_reducible refine below_draws ?_ _) | (with_reducible refine Below.alloc ?_ (by go_size) _) | (with_reducible refine Below.setCell ?_ (by go_size) _) | (with_reducible refine Below.alloc ?_ (by simp <;> omega) _) | (with_reducible refine Below.setCell ?_ (by simp <;> omega) _)))⟩
    clear hb
    obtain ⟨c0_, c1_, c2_, c3_, c4_, c5_, c6_, c7_, c8_, c9_, c10_, c11_, c12_, c13_⟩ := K_T0.cells hK; obtain ⟨z0_, z1_, z2_, -⟩ := K_T0.zs hK; have HK := Lib.hid hK; clear hK
    go_wp2_with (go_at_call 7; (with_reducible refine (rCheck_any _ _ _).mono ?_); rintro e w' ⟨rfl, hb⟩; clear c0_ c1_ c2_ c3_ c4_ c5_ c6_ c7_ c8_ c9_ c10_ c11_ c12_ c13_ z0_ z1_ z2_; have hK := K_T0.below hb HK.out; clear hb HK; obtain ⟨c0_, c1_, c2_, c3_, c4_, c5_, c6_, c7_, c8_, c9_, c10_, c11_, c12_, c13_⟩ := K_T0.cells hK; obtain ⟨z0_, z1_, z2_, -⟩ := K_T0.zs hK; have HK := Lib.hid hK; clear hK)
    go_ret
    exact ⟨by simp [*], K_T0.bel HK.out⟩
theorem keeps_pair (A B C D p0 p1 p2 p3 p4 q0 q1 q2 q3 q4 : Int) (x y : Q) (w : World) (hA : chkA A B = 0) (hC : chkA C D = 0) (e3 : absB A = false) (e4 : absB B = false) (e5 : absB C = false) (e6 : absB D = false) (e7 : Tm.tnyB p0 p1 p2 p3 p4 = true) (e8 : Tm.tnyB q0 q1 q2 q3 q4 = true) (hI : isoB A B C D = true)
    (hf : ff (tnB C D) (Dl (pf C D A) 2) (Dl (pf C D B) 2) = some (x, y)) : Calls Try.prog 4 #[.agg #[.int .i64 A, .int .i64 B], .agg #[.int .i64 C, .int .i64 D], .agg #[.int .i64 p0, .int .i64 p1, .int .i64 p2, .int .i64 p3, .int .i64 p4, .int .i64 q0, .int .i64 q1, .int .i64 q2, .int .i64 q3, .int .i64 q4]] w fun e w' => e = .returned (.bool true) ∧ Below w.heap.size w w' := by
  obtain ⟨hx, hy, hs⟩ := pair_of hf
  obtain ⟨-, -, bA, bB⟩ := Rm.chk_bds hA
  obtain ⟨-, -, bC, bD⟩ := Rm.chk_bds hC
  have a1 : -12 ≤ A ∧ A ≤ 12 := by have := of_decide_eq_false e3; omega
  have a2 : -12 ≤ B ∧ B ≤ 12 := by have := of_decide_eq_false e4; omega
  have a3 : -12 ≤ C ∧ C ≤ 12 := by have := of_decide_eq_false e5; omega
  have a4 : -12 ≤ D ∧ D ≤ 12 := by have := of_decide_eq_false e6; omega
  have tp : Ty ⟨p0, p1, p2, p3, p4⟩ := by obtain ⟨h0, h1, h2, h3, h4⟩ := tny_bd e7; exact ⟨h0, h1, h2, h3, h4⟩
  have tq : Ty ⟨q0, q1, q2, q3, q4⟩ := by obtain ⟨h0, h1, h2, h3, h4⟩ := tny_bd e8; exact ⟨h0, h1, h2, h3, h4⟩
  have ts := mul_sm a1 a2 tp tq
  have fp : qB (img C D x y ⟨p0, p1, p2, p3, p4⟩).low = true := O_fit a3 a4 hx hy tp.sm 3
  have fq : qB (img C D x y ⟨q0, q1, q2, q3, q4⟩).low = true := O_fit a3 a4 hx hy tq.sm 3
  have fs : qB (img C D x y (mulq A B ⟨p0, p1, p2, p3, p4⟩ ⟨q0, q1, q2, q3, q4⟩)).low = true := O_fit a3 a4 hx hy ts 3
  have dp : 0 < p4 := by have := tp.d; simp only [] at this; omega
  have dq : 0 < q4 := by have := tq.d; simp only [] at this; omega
  have hm := img_mul (p := ⟨p0, p1, p2, p3, p4⟩) (q := ⟨q0, q1, q2, q3, q4⟩) hs dp dq
  have hn := img_norm (p := ⟨p0, p1, p2, p3, p4⟩) hs dp
  have hl := img_low (C := C) (D := D) (q := mulq A B ⟨p0, p1, p2, p3, p4⟩ ⟨q0, q1, q2, q3, q4⟩) hs.dx hs.dy (Int.mul_pos dp dq)
  have IS : Hid (∀ W : World, Calls Try.prog 16 #[.agg #[.int .i64 A, .int .i64 B], .agg #[.int .i64 C, .int .i64 D]] W fun e w' => e = .returned (.tuple #[.agg #[.int .i64 (x).w, .int .i64 (x).x, .int .i64 (x).y, .int .i64 (x).z, .int .i64 (x).d], .agg #[.int .i64 (y).w, .int .i64 (y).x, .int .i64 (y).y, .int .i64 (y).z, .int .i64 (y).d], .int .i64 0]) ∧ Below W.heap.size W w') := Lib.hid fun W => by
    have h := Ism_ok A B C D W hA hC hI
    rw [hf] at h
    exact h
  have IC : Hid (∀ W : World, Calls Try.prog 17 #[.agg #[.int .i64 A, .int .i64 B], .agg #[.int .i64 C, .int .i64 D]] W fun e w' => e = .returned (.tuple #[.bool true, .int .i64 0]) ∧ Below W.heap.size W w') := Lib.hid fun W => by
    have h := Isc_ok A B C D W hA hC
    rw [hI] at h
    exact h
  have MU : Hid (∀ W : World, Calls Try.prog 18 #[.agg #[.int .i64 A, .int .i64 B], .agg #[.int .i64 p0, .int .i64 p1, .int .i64 p2, .int .i64 p3, .int .i64 p4], .agg #[.int .i64 q0, .int .i64 q1, .int .i64 q2, .int .i64 q3, .int .i64 q4]] W fun e w' => e = .returned (.tuple #[.agg #[.int .i64 ((mulq A B ⟨p0, p1, p2, p3, p4⟩ ⟨q0, q1, q2, q3, q4⟩).low).w, .int .i64 ((mulq A B ⟨p0, p1, p2, p3, p4⟩ ⟨q0, q1, q2, q3, q4⟩).low).x, .int .i64 ((mulq A B ⟨p0, p1, p2, p3, p4⟩ ⟨q0, q1, q2, q3, q4⟩).low).y, .int .i64 ((mulq A B ⟨p0, p1, p2, p3, p4⟩ ⟨q0, q1, q2, q3, q4⟩).low).z, .int .i64 ((mulq A B ⟨p0, p1, p2, p3, p4⟩ ⟨q0, q1, q2, q3, q4⟩).low).d], .int .i64 0]) ∧ Below W.heap.size W w') := Lib.hid fun W => by
    have h := Mul_ok A B p0 p1 p2 p3 p4 q0 q1 q2 q3 q4 W (by unfold err3; rw [hA, or2_z, tp.chk, or2_z]; exact tq.chk)
    rw [(fits ts.fit).1, (fits ts.fit).2] at h
    exact h
  have M1 : Hid (∀ W : World, Calls Try.prog 19 #[.agg #[.int .i64 C, .int .i64 D], .agg #[.int .i64 p0, .int .i64 p1, .int .i64 p2, .int .i64 p3, .int .i64 p4], .agg #[.int .i64 (x).w, .int .i64 (x).x, .int .i64 (x).y, .int .i64 (x).z, .int .i64 (x).d], .agg #[.int .i64 (y).w, .int .i64 (y).x, .int .i64 (y).y, .int .i64 (y).z, .int .i64 (y).d]] W fun e w' => e = .returned (.tuple #[.agg #[.int .i64 ((img C D x y ⟨p0, p1, p2, p3, p4⟩).low).w, .int .i64 ((img C D x y ⟨p0, p1, p2, p3, p4⟩).low).x, .int .i64 ((img C D x y ⟨p0, p1, p2, p3, p4⟩).low).y, .int .i64 ((img C D x y ⟨p0, p1, p2, p3, p4⟩).low).z, .int .i64 ((img C D x y ⟨p0, p1, p2, p3, p4⟩).low).d], .bool true]) ∧ Below W.heap.size W w') := Lib.hid fun W => moved_any C D x y ⟨p0, p1, p2, p3, p4⟩ W hC a3 a4 hx hy tp.sm hs.xy
  have M2 : Hid (∀ W : World, Calls Try.prog 19 #[.agg #[.int .i64 C, .int .i64 D], .agg #[.int .i64 q0, .int .i64 q1, .int .i64 q2, .int .i64 q3, .int .i64 q4], .agg #[.int .i64 (x).w, .int .i64 (x).x, .int .i64 (x).y, .int .i64 (x).z, .int .i64 (x).d], .agg #[.int .i64 (y).w, .int .i64 (y).x, .int .i64 (y).y, .int .i64 (y).z, .int .i64 (y).d]] W fun e w' => e = .returned (.tuple #[.agg #[.int .i64 ((img C D x y ⟨q0, q1, q2, q3, q4⟩).low).w, .int .i64 ((img C D x y ⟨q0, q1, q2, q3, q4⟩).low).x, .int .i64 ((img C D x y ⟨q0, q1, q2, q3, q4⟩).low).y, .int .i64 ((img C D x y ⟨q0, q1, q2, q3, q4⟩).low).z, .int .i64 ((img C D x y ⟨q0, q1, q2, q3, q4⟩).low).d], .bool true]) ∧ Below W.heap.size W w') := Lib.hid fun W => moved_any C D x y ⟨q0, q1, q2, q3, q4⟩ W hC a3 a4 hx hy tq.sm hs.xy
  have M3 : Hid (∀ W : World, Calls Try.prog 19 #[.agg #[.int .i64 C, .int .i64 D], .agg #[.int .i64 ((mulq A B ⟨p0, p1, p2, p3, p4⟩ ⟨q0, q1, q2, q3, q4⟩).low).w, .int .i64 ((mulq A B ⟨p0, p1, p2, p3, p4⟩ ⟨q0, q1, q2, q3, q4⟩).low).x, .int .i64 ((mulq A B ⟨p0, p1, p2, p3, p4⟩ ⟨q0, q1, q2, q3, q4⟩).low).y, .int .i64 ((mulq A B ⟨p0, p1, p2, p3, p4⟩ ⟨q0, q1, q2, q3, q4⟩).low).z, .int .i64 ((mulq A B ⟨p0, p1, p2, p3, p4⟩ ⟨q0, q1, q2, q3, q4⟩).low).d], .agg #[.int .i64 (x).w, .int .i64 (x).x, .int .i64 (x).y, .int .i64 (x).z, .int .i64 (x).d], .agg #[.int .i64 (y).w, .int .i64 (y).x, .int .i64 (y).y, .int .i64 (y).z, .int .i64 (y).d]] W fun e w' => e = .returned (.tuple #[.agg #[.int .i64 ((img C D x y (mulq A B ⟨p0, p1, p2, p3, p4⟩ ⟨q0, q1, q2, q3, q4⟩)).low).w, .int .i64 ((img C D x y (mulq A B ⟨p0, p1, p2, p3, p4⟩ ⟨q0, q1, q2, q3, q4⟩)).low).x, .int .i64 ((img C D x y (mulq A B ⟨p0, p1, p2, p3, p4⟩ ⟨q0, q1, q2, q3, q4⟩)).low).y, .int .i64 ((img C D x y (mulq A B ⟨p0, p1, p2, p3, p4⟩ ⟨q0, q1, q2, q3, q4⟩)).low).z, .int .i64 ((img C D x y (mulq A B ⟨p0, p1, p2, p3, p4⟩ ⟨q0, q1, q2, q3, q4⟩)).low).d], .bool true]) ∧ Below W.heap.size W w') := Lib.hid fun W => by
    have h := moved_any C D x y (mulq A B ⟨p0, p1, p2, p3, p4⟩ ⟨q0, q1, q2, q3, q4⟩).low W hC a3 a4 hx hy ts.low hs.xy
    rw [hl] at h
    exact h
  have MV : Hid (∀ W : World, Calls Try.prog 18 #[.agg #[.int .i64 C, .int .i64 D], .agg #[.int .i64 ((img C D x y ⟨p0, p1, p2, p3, p4⟩).low).w, .int .i64 ((img C D x y ⟨p0, p1, p2, p3, p4⟩).low).x, .int .i64 ((img C D x y ⟨p0, p1, p2, p3, p4⟩).low).y, .int .i64 ((img C D x y ⟨p0, p1, p2, p3, p4⟩).low).z, .int .i64 ((img C D x y ⟨p0, p1, p2, p3, p4⟩).low).d], .agg #[.int .i64 ((img C D x y ⟨q0, q1, q2, q3, q4⟩).low).w, .int .i64 ((img C D x y ⟨q0, q1, q2, q3, q4⟩).low).x, .int .i64 ((img C D x y ⟨q0, q1, q2, q3, q4⟩).low).y, .int .i64 ((img C D x y ⟨q0, q1, q2, q3, q4⟩).low).z, .int .i64 ((img C D x y ⟨q0, q1, q2, q3, q4⟩).low).d]] W fun e w' => e = .returned (.tuple #[.agg #[.int .i64 ((img C D x y (mulq A B ⟨p0, p1, p2, p3, p4⟩ ⟨q0, q1, q2, q3, q4⟩)).low).w, .int .i64 ((img C D x y (mulq A B ⟨p0, p1, p2, p3, p4⟩ ⟨q0, q1, q2, q3, q4⟩)).low).x, .int .i64 ((img C D x y (mulq A B ⟨p0, p1, p2, p3, p4⟩ ⟨q0, q1, q2, q3, q4⟩)).low).y, .int .i64 ((img C D x y (mulq A B ⟨p0, p1, p2, p3, p4⟩ ⟨q0, q1, q2, q3, q4⟩)).low).z, .int .i64 ((img C D x y (mulq A B ⟨p0, p1, p2, p3, p4⟩ ⟨q0, q1, q2, q3, q4⟩)).low).d], .int .i64 0]) ∧ Below W.heap.size W w') := Lib.hid fun W => by
    have g : qB (mulq C D (img C D x y ⟨p0, p1, p2, p3, p4⟩).low (img C D x y ⟨q0, q1, q2, q3, q4⟩).low).low = true := by rw [hm, hl]; exact fs
    have h := Mul_ok C D _ _ _ _ _ _ _ _ _ _ W (show err3 C D (img C D x y ⟨p0, p1, p2, p3, p4⟩).low.w (img C D x y ⟨p0, p1, p2, p3, p4⟩).low.x (img C D x y ⟨p0, p1, p2, p3, p4⟩).low.y (img C D x y ⟨p0, p1, p2, p3, p4⟩).low.z (img C D x y ⟨p0, p1, p2, p3, p4⟩).low.d (img C D x y ⟨q0, q1, q2, q3, q4⟩).low.w (img C D x y ⟨q0, q1, q2, q3, q4⟩).low.x (img C D x y ⟨q0, q1, q2, q3, q4⟩).low.y (img C D x y ⟨q0, q1, q2, q3, q4⟩).low.z (img C D x y ⟨q0, q1, q2, q3, q4⟩).low.d = 0 by unfold err3; rw [hC, or2_z, chk_of fp, or2_z]; exact chk_of fq)
    rw [show (Q.mk (img C D x y ⟨p0, p1, p2, p3, p4⟩).low.w (img C D x y ⟨p0, p1, p2, p3, p4⟩).low.x (img C D x y ⟨p0, p1, p2, p3, p4⟩).low.y (img C D x y ⟨p0, p1, p2, p3, p4⟩).low.z (img C D x y ⟨p0, p1, p2, p3, p4⟩).low.d) = (img C D x y ⟨p0, p1, p2, p3, p4⟩).low from rfl, show (Q.mk (img C D x y ⟨q0, q1, q2, q3, q4⟩).low.w (img C D x y ⟨q0, q1, q2, q3, q4⟩).low.x (img C D x y ⟨q0, q1, q2, q3, q4⟩).low.y (img C D x y ⟨q0, q1, q2, q3, q4⟩).low.z (img C D x y ⟨q0, q1, q2, q3, q4⟩).low.d) = (img C D x y ⟨q0, q1, q2, q3, q4⟩).low from rfl, (fits g).1, (fits g).2, hm, hl] at h
    exact h
  have N1 : Hid (∀ W : World, Calls Try.prog 13 #[.agg #[.int .i64 A, .int .i64 B], .agg #[.int .i64 p0, .int .i64 p1, .int .i64 p2, .int .i64 p3, .int .i64 p4]] W fun e w' => e = .returned (.tuple #[.agg #[.int .i64 (fn (nm A B p0 p1 p2 p3) (p4 * p4)), .int .i64 (fd (nm A B p0 p1 p2 p3) (p4 * p4))], .int .i64 0]) ∧ Below W.heap.size W w') := Lib.hid fun W => Norm_v A B p0 p1 p2 p3 p4 W hA tp.chk
  have N2 : Hid (∀ W : World, Calls Try.prog 13 #[.agg #[.int .i64 C, .int .i64 D], .agg #[.int .i64 ((img C D x y ⟨p0, p1, p2, p3, p4⟩).low).w, .int .i64 ((img C D x y ⟨p0, p1, p2, p3, p4⟩).low).x, .int .i64 ((img C D x y ⟨p0, p1, p2, p3, p4⟩).low).y, .int .i64 ((img C D x y ⟨p0, p1, p2, p3, p4⟩).low).z, .int .i64 ((img C D x y ⟨p0, p1, p2, p3, p4⟩).low).d]] W fun e w' => e = .returned (.tuple #[.agg #[.int .i64 (fn (nm A B p0 p1 p2 p3) (p4 * p4)), .int .i64 (fd (nm A B p0 p1 p2 p3) (p4 * p4))], .int .i64 0]) ∧ Below W.heap.size W w') := Lib.hid fun W => by
    have h := Norm_v C D _ _ _ _ _ W hC (chk_of fp)
    rw [hn.1, hn.2] at h
    exact h
  exact keeps_go A B C D p0 p1 p2 p3 p4 q0 q1 q2 q3 q4 x y _ _ _ _ _ _ w (by rw [hA]; rfl) (by rw [hC]; rfl) e3 e4 e5 e6 e7 e8 IS IC MU M1 M2 M3 MV N1 N2 ⟨by omega, by omega, by omega, by omega⟩
theorem keeps_any (A B C D p0 p1 p2 p3 p4 q0 q1 q2 q3 q4 : Int) (w : World) : Calls Try.prog 4 #[.agg #[.int .i64 A, .int .i64 B], .agg #[.int .i64 C, .int .i64 D], .agg #[.int .i64 p0, .int .i64 p1, .int .i64 p2, .int .i64 p3, .int .i64 p4, .int .i64 q0, .int .i64 q1, .int .i64 q2, .int .i64 q3, .int .i64 q4]] w fun e w' => e = .returned (.bool true) ∧ Below w.heap.size w w' := by
  by_cases hA : chkA A B = 0
  · by_cases hC : chkA C D = 0
    · obtain ⟨-, -, bA, bB⟩ := Rm.chk_bds hA
      obtain ⟨-, -, bC, bD⟩ := Rm.chk_bds hC
      have bb : -9223372036854775807 ≤ A ∧ -9223372036854775807 ≤ B ∧ -9223372036854775807 ≤ C ∧ -9223372036854775807 ≤ D := ⟨by omega, by omega, by omega, by omega⟩
      by_cases h : absB A = true ∨ absB B = true ∨ absB C = true ∨ absB D = true ∨ Tm.tnyB p0 p1 p2 p3 p4 = false ∨ Tm.tnyB q0 q1 q2 q3 q4 = false
      · exact keeps_out A B C D p0 p1 p2 p3 p4 q0 q1 q2 q3 q4 w (Or.inr (Or.inr h)) bb
      · simp only [not_or, Bool.not_eq_true, Bool.not_eq_false] at h
        obtain ⟨e3, e4, e5, e6, e7, e8⟩ := h
        have e1 : (chkA A B != 0) = false := by rw [hA]; rfl
        have e2 : (chkA C D != 0) = false := by rw [hC]; rfl
        cases hI : isoB A B C D with
        | false =>
          refine keeps_no A B C D p0 p1 p2 p3 p4 q0 q1 q2 q3 q4 ⟨0, 0, 0, 0, 0⟩ ⟨0, 0, 0, 0, 0⟩ 12 false w e1 e2 e3 e4 e5 e6 e7 e8 (Lib.hid fun W => Ism_none A B C D W hA hC hI) (Lib.hid fun W => ?_) (Or.inl ⟨rfl, rfl⟩) bb
          have h := Isc_ok A B C D W hA hC
          rw [hI] at h
          exact h
        | true =>
          cases hf : ff (tnB C D) (Dl (pf C D A) 2) (Dl (pf C D B) 2) with
          | none =>
            refine keeps_no A B C D p0 p1 p2 p3 p4 q0 q1 q2 q3 q4 ⟨0, 0, 0, 0, 0⟩ ⟨0, 0, 0, 0, 0⟩ 21 true w e1 e2 e3 e4 e5 e6 e7 e8 (Lib.hid fun W => ?_) (Lib.hid fun W => ?_) (Or.inr ⟨rfl, rfl⟩) bb
            · have h := Ism_ok A B C D W hA hC hI
              rw [hf] at h
              exact h
            · have h := Isc_ok A B C D W hA hC
              rw [hI] at h
              exact h
          | some r =>
            obtain ⟨x, y⟩ := r
            exact keeps_pair A B C D p0 p1 p2 p3 p4 q0 q1 q2 q3 q4 x y w hA hC e3 e4 e5 e6 e7 e8 hI hf
    · exact keeps_chk A B C D p0 p1 p2 p3 p4 q0 q1 q2 q3 q4 w (Or.inr ⟨by rw [hA]; rfl, by rw [bne_iff_ne]; exact hC⟩)
  · exact keeps_chk A B C D p0 p1 p2 p3 p4 q0 q1 q2 q3 q4 w (Or.inl (by rw [bne_iff_ne]; exact hA))
end Go.Proofs.Ytgbnmnkgelklbaa.Ik
