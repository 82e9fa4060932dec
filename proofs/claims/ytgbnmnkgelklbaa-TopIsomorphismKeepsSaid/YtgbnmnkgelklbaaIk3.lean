/-
  The image of a small element under small images of i and j: all that moved computes fits.
-/
import Derived.Test.YtgbnmnkgelklbaaIk2
namespace Go.Proofs.Ytgbnmnkgelklbaa.Ik
open Go.RowKit
open Alm Al
set_option linter.unusedVariables false
set_option linter.unusedSimpArgs false
set_option maxRecDepth 100000
/-- an element of the box -/
structure Bx (q0 : Q) : Prop where
  w : q0.w = 0
  x : -8 ≤ q0.x ∧ q0.x ≤ 8
  y : -8 ≤ q0.y ∧ q0.y ≤ 8
  z : -8 ≤ q0.z ∧ q0.z ≤ 8
  d : 1 ≤ q0.d ∧ q0.d ≤ 2
/-- an element whose image fits -/
structure Sm (q0 : Q) : Prop where
  w : -1521 ≤ q0.w ∧ q0.w ≤ 1521
  x : -234 ≤ q0.x ∧ q0.x ≤ 234
  y : -234 ≤ q0.y ∧ q0.y ≤ 234
  z : -36 ≤ q0.z ∧ q0.z ≤ 36
  d : 1 ≤ q0.d ∧ q0.d ≤ 9
theorem qB_low {q : Q} (h0 : -1000000 ≤ q.w ∧ q.w ≤ 1000000) (h1 : -1000000 ≤ q.x ∧ q.x ≤ 1000000) (h2 : -1000000 ≤ q.y ∧ q.y ≤ 1000000) (h3 : -1000000 ≤ q.z ∧ q.z ≤ 1000000) (h4 : 1 ≤ q.d ∧ q.d ≤ 1000000) : qB q.low = true := by
  have hp := q.low_pos (by omega)
  have b0 := tdiv_bd q.w (gs q.w q.x q.y q.z q.d)
  have b1 := tdiv_bd q.x (gs q.w q.x q.y q.z q.d)
  have b2 := tdiv_bd q.y (gs q.w q.x q.y q.z q.d)
  have b3 := tdiv_bd q.z (gs q.w q.x q.y q.z q.d)
  have b4 := tdiv_bd q.d (gs q.w q.x q.y q.z q.d)
  unfold qB qin
  unfold Q.low at hp ⊢
  simp only [] at hp ⊢
  exact decide_eq_true ⟨⟨by omega, by omega⟩, ⟨by omega, by omega⟩, ⟨by omega, by omega⟩, ⟨by omega, by omega⟩, by omega, by omega⟩
theorem chk_of {q : Q} (h : qB q = true) : chkQ q.w q.x q.y q.z q.d = 0 := by unfold chkQ; rw [if_pos h]
/-- numbers of at most K, a denominator of at most D: it fits -/
theorem fits {q : Q} (h : qB q.low = true) : fitQ q = q.low ∧ fitE q = 0 := by
  unfold fitQ fitE; rw [if_pos h, if_pos h]; exact ⟨rfl, rfl⟩
theorem pr {a b : Int} (A B : Nat) (h : -(A : Int) ≤ a ∧ a ≤ A) (k : -(B : Int) ≤ b ∧ b ≤ B) : -((A * B : Nat) : Int) ≤ a * b ∧ a * b ≤ ((A * B : Nat) : Int) := mb A B h k
theorem box_q {x : Q} (h : Bx x) : chkQ x.w x.x x.y x.z x.d = 0 := by
  obtain ⟨h0, h1, h2, h3, h4⟩ := h
  refine chk_of ?_
  unfold qB qin
  exact decide_eq_true ⟨⟨by omega, by omega⟩, ⟨by omega, by omega⟩, ⟨by omega, by omega⟩, ⟨by omega, by omega⟩, by omega, by omega⟩
theorem cross_bd {a b c d : Int} (h1 : -8 ≤ a ∧ a ≤ 8) (h2 : -8 ≤ b ∧ b ≤ 8) (h3 : -8 ≤ c ∧ c ≤ 8) (h4 : -8 ≤ d ∧ d ≤ 8) : -128 ≤ a * b - c * d ∧ a * b - c * d ≤ 128 := by
  have k1 := pr 8 8 h1 h2
  have k2 := pr 8 8 h3 h4
  simp only [Nat.reduceMul] at k1 k2
  omega
/-- the product of x and y -/
theorem k_bd {C D : Int} {x y : Q} (hC : -12 ≤ C ∧ C ≤ 12) (hD : -12 ≤ D ∧ D ≤ 12) (hx : Bx x) (hy : Bx y) :
    (-1536 ≤ D * (x.z * y.y - x.y * y.z) ∧ D * (x.z * y.y - x.y * y.z) ≤ 1536) ∧ (-1536 ≤ C * (x.x * y.z - x.z * y.x) ∧ C * (x.x * y.z - x.z * y.x) ≤ 1536) ∧ (-128 ≤ x.x * y.y - x.y * y.x ∧ x.x * y.y - x.y * y.x ≤ 128) := by
  have a1 := pr 12 128 hD (cross_bd hx.z hy.y hx.y hy.z)
  have a2 := pr 12 128 hC (cross_bd hx.x hy.z hx.z hy.x)
  simp only [Nat.reduceMul] at a1 a2
  exact ⟨a1, a2, cross_bd hx.x hy.y hx.y hy.x⟩
theorem sc_bd1 {a x e : Int} (ha : -234 ≤ a ∧ a ≤ 234) (hx : -8 ≤ x ∧ x ≤ 8) (he : 1 ≤ e ∧ e ≤ 2) : (-1872 ≤ x * a ∧ x * a ≤ 1872) ∧ (-1872 ≤ a * x ∧ a * x ≤ 1872) ∧ (-3744 ≤ a * e * x ∧ a * e * x ≤ 3744) := by
  have a1 := pr 8 234 hx ha
  have a2 := pr 234 8 ha hx
  have a3 := pr 234 2 ha (show -2 ≤ e ∧ e ≤ 2 by omega)
  have a4 := pr 468 8 a3 hx
  simp only [Nat.reduceMul] at a1 a2 a3 a4
  exact ⟨a1, a2, a4⟩
theorem fr_ok {a b : Int} (ha : -2000 ≤ a ∧ a ≤ 2000) (hb : 1 ≤ b ∧ b ≤ 9) : frB a b = true := by
  unfold frB
  rw [Bool.and_eq_true, Bool.and_eq_true, bne_iff_ne]
  exact ⟨by omega, decide_eq_true (by omega), decide_eq_true (by omega)⟩
def Oi (C D : Int) (x y q : Q) : Nat → Q
  | 0 => (scaleq ⟨1, 0, 0, 0, 1⟩ q.w q.d).low
  | 1 => (stp1 x q).low
  | 2 => (stp2 x y q).low
  | _ => (img C D x y q).low
def Pi_ (C D : Int) (x y q : Q) : Nat → Q
  | 0 => (scaleq x q.x q.d).low
  | 1 => (scaleq y q.y q.d).low
  | _ => (scaleq (mulq C D x y).low q.z q.d).low
theorem low_le (q : Q) (hd : 0 < q.d) : (-(q.x.natAbs : Int) ≤ q.low.x ∧ q.low.x ≤ q.x.natAbs) ∧ (-(q.y.natAbs : Int) ≤ q.low.y ∧ q.low.y ≤ q.y.natAbs) ∧ (-(q.z.natAbs : Int) ≤ q.low.z ∧ q.low.z ≤ q.z.natAbs) ∧ (-(q.w.natAbs : Int) ≤ q.low.w ∧ q.low.w ≤ q.w.natAbs) ∧ 1 ≤ q.low.d ∧ q.low.d ≤ q.d := by
  have hp := q.low_pos (by omega)
  have b4 := tdiv_bd q.d (gs q.w q.x q.y q.z q.d)
  exact ⟨tdiv_bd _ _, tdiv_bd _ _, tdiv_bd _ _, tdiv_bd _ _, by omega, by unfold Q.low at hp ⊢; simp only [] at hp ⊢; omega⟩
theorem ded {x y q : Q} (hx : Bx x) (hy : Bx y) (hq : Sm q) : (1 ≤ x.d * y.d ∧ x.d * y.d ≤ 4) ∧ (1 ≤ q.d * x.d ∧ q.d * x.d ≤ 18) ∧ (1 ≤ q.d * (x.d * y.d) ∧ q.d * (x.d * y.d) ≤ 36) ∧ (-6084 ≤ q.w * (x.d * y.d) ∧ q.w * (x.d * y.d) ≤ 6084) ∧ (-3042 ≤ q.w * x.d ∧ q.w * x.d ≤ 3042) := by
  have h1 := hx.d
  have h2 := hy.d
  have h3 := hq.d
  have e1 : 1 ≤ x.d * y.d := Int.mul_pos (by omega) (by omega)
  have e1' : x.d * y.d ≤ 4 := by have := pr 2 2 (show -2 ≤ x.d ∧ x.d ≤ 2 by omega) (show -2 ≤ y.d ∧ y.d ≤ 2 by omega); simp only [Nat.reduceMul] at this; omega
  have e2 : 1 ≤ q.d * x.d := Int.mul_pos (by omega) (by omega)
  have e2' : q.d * x.d ≤ 18 := by have := pr 9 2 (show -9 ≤ q.d ∧ q.d ≤ 9 by omega) (show -2 ≤ x.d ∧ x.d ≤ 2 by omega); simp only [Nat.reduceMul] at this; omega
  have e3 : 1 ≤ q.d * (x.d * y.d) := Int.mul_pos (by omega) (by omega)
  have e3' : q.d * (x.d * y.d) ≤ 36 := by have := pr 9 4 (show -9 ≤ q.d ∧ q.d ≤ 9 by omega) (show -4 ≤ x.d * y.d ∧ x.d * y.d ≤ 4 by omega); simp only [Nat.reduceMul] at this; omega
  have e4 := pr 1521 4 hq.w (show -4 ≤ x.d * y.d ∧ x.d * y.d ≤ 4 by omega)
  have e5 := pr 1521 2 hq.w (show -2 ≤ x.d ∧ x.d ≤ 2 by omega)
  simp only [Nat.reduceMul] at e4 e5
  exact ⟨⟨e1, e1'⟩, ⟨e2, e2'⟩, ⟨e3, e3'⟩, e4, e5⟩
theorem mul_k {C D : Int} {x y : Q} (hx : Bx x) (hy : Bx y) (hn : C * x.x * y.x + D * x.y * y.y - C * D * x.z * y.z = 0) : mulq C D x y = ⟨0, D * (x.z * y.y - x.y * y.z), C * (x.x * y.z - x.z * y.x), x.x * y.y - x.y * y.x, x.d * y.d⟩ := by
  have h1 := hx.w
  have h2 := hy.w
  apply Q.ext' <;> simp only [mulq, pw, px, py, pz, h1, h2, Int.zero_mul, Int.mul_zero, Int.zero_add, Int.add_zero]
  exact hn
theorem O_fit {C D : Int} {x y q : Q} (hC : -12 ≤ C ∧ C ≤ 12) (hD : -12 ≤ D ∧ D ≤ 12) (hx : Bx x) (hy : Bx y) (hq : Sm q) : ∀ i, qB (Oi C D x y q i) = true := by
  obtain ⟨d1, d2, d3, d4, d5⟩ := ded hx hy hq
  obtain ⟨k1, k2, k3⟩ := k_bd hC hD hx hy
  obtain ⟨a1, a2, a3⟩ := sc_bd1 hq.x hx.x hy.d
  obtain ⟨b1, b2, b3⟩ := sc_bd1 hq.x hx.y hy.d
  obtain ⟨c1, c2, c3⟩ := sc_bd1 hq.x hx.z hy.d
  obtain ⟨e1, e2, e3⟩ := sc_bd1 hq.y hy.x hx.d
  obtain ⟨f1, f2, f3⟩ := sc_bd1 hq.y hy.y hx.d
  obtain ⟨g1, g2, g3⟩ := sc_bd1 hq.y hy.z hx.d
  have z1 := pr 36 1536 hq.z k1
  have z2 := pr 36 1536 hq.z k2
  have z3 := pr 36 128 hq.z k3
  simp only [Nat.reduceMul] at z1 z2 z3
  have hw := hq.w
  have hd := hq.d
  intro i
  match i with
  | 0 => exact qB_low (by simp only [scaleq]; omega) (by simp only [scaleq]; omega) (by simp only [scaleq]; omega) (by simp only [scaleq]; omega) (by simp only [scaleq]; omega)
  | 1 => exact qB_low (by simp only [stp1]; omega) (by simp only [stp1]; omega) (by simp only [stp1]; omega) (by simp only [stp1]; omega) (by simp only [stp1]; omega)
  | 2 => exact qB_low (by simp only [stp2]; omega) (by simp only [stp2]; omega) (by simp only [stp2]; omega) (by simp only [stp2]; omega) (by simp only [stp2]; omega)
  | _ + 3 => exact qB_low (by simp only [img, iw]; omega) (by simp only [img, ic]; omega) (by simp only [img, ic]; omega) (by simp only [img, ic]; omega) (by simp only [img]; omega)
theorem K_fit {C D : Int} {x y : Q} (hC : -12 ≤ C ∧ C ≤ 12) (hD : -12 ≤ D ∧ D ≤ 12) (hx : Bx x) (hy : Bx y) (hn : C * x.x * y.x + D * x.y * y.y - C * D * x.z * y.z = 0) :
    qB (mulq C D x y).low = true ∧ (-1536 ≤ (mulq C D x y).low.x ∧ (mulq C D x y).low.x ≤ 1536) ∧ (-1536 ≤ (mulq C D x y).low.y ∧ (mulq C D x y).low.y ≤ 1536) ∧ (-1536 ≤ (mulq C D x y).low.z ∧ (mulq C D x y).low.z ≤ 1536) ∧ (mulq C D x y).low.w = 0 ∧ 1 ≤ (mulq C D x y).low.d ∧ (mulq C D x y).low.d ≤ 4 := by
  obtain ⟨k1, k2, k3⟩ := k_bd hC hD hx hy
  have h1 := hx.d
  have h2 := hy.d
  have e1 : 1 ≤ x.d * y.d := Int.mul_pos (by omega) (by omega)
  have e1' : x.d * y.d ≤ 4 := by have := pr 2 2 (show -2 ≤ x.d ∧ x.d ≤ 2 by omega) (show -2 ≤ y.d ∧ y.d ≤ 2 by omega); simp only [Nat.reduceMul] at this; omega
  rw [mul_k hx hy hn]
  obtain ⟨l1, l2, l3, l4, l5, l6⟩ := low_le ⟨0, D * (x.z * y.y - x.y * y.z), C * (x.x * y.z - x.z * y.x), x.x * y.y - x.y * y.x, x.d * y.d⟩ (by simp only []; omega)
  simp only [] at l1 l2 l3 l4 l6
  refine ⟨qB_low (by simp only []; omega) (by simp only []; omega) (by simp only []; omega) (by simp only []; omega) (by simp only []; omega), by omega, by omega, by omega, by omega, by omega, by omega⟩
theorem P_fit {C D : Int} {x y q : Q} (hC : -12 ≤ C ∧ C ≤ 12) (hD : -12 ≤ D ∧ D ≤ 12) (hx : Bx x) (hy : Bx y) (hq : Sm q) (hn : C * x.x * y.x + D * x.y * y.y - C * D * x.z * y.z = 0) : ∀ i, qB (Pi_ C D x y q i) = true := by
  obtain ⟨-, kx, ky, kz, kw, kd, kd'⟩ := K_fit hC hD hx hy hn
  have sb : ∀ {z : Q} {n : Int}, (z.w = 0) → (-1536 ≤ z.x ∧ z.x ≤ 1536) → (-1536 ≤ z.y ∧ z.y ≤ 1536) → (-1536 ≤ z.z ∧ z.z ≤ 1536) → (1 ≤ z.d ∧ z.d ≤ 4) → (-234 ≤ n ∧ n ≤ 234) → qB (scaleq z n q.d).low = true := by
    intro z n h0 h1 h2 h3 h4 h5
    have a1 := pr 1536 234 h1 h5
    have a2 := pr 1536 234 h2 h5
    have a3 := pr 1536 234 h3 h5
    have hd := hq.d
    have a4 : 1 ≤ z.d * q.d := Int.mul_pos (by omega) (by omega)
    have a5 : z.d * q.d ≤ 36 := by have := pr 4 9 (show -4 ≤ z.d ∧ z.d ≤ 4 by omega) (show -9 ≤ q.d ∧ q.d ≤ 9 by omega); simp only [Nat.reduceMul] at this; omega
    simp only [Nat.reduceMul] at a1 a2 a3
    exact qB_low (by simp only [scaleq, h0]; omega) (by simp only [scaleq]; omega) (by simp only [scaleq]; omega) (by simp only [scaleq]; omega) (by simp only [scaleq]; omega)
  have h1 := hx.x
  have h2 := hx.y
  have h3 := hx.z
  have h4 := hx.d
  have g1 := hy.x
  have g2 := hy.y
  have g3 := hy.z
  have g4 := hy.d
  have n1 := hq.x
  have n2 := hq.y
  have n3 := hq.z
  intro i
  match i with
  | 0 => exact sb hx.w (by omega) (by omega) (by omega) (by omega) (by omega)
  | 1 => exact sb hy.w (by omega) (by omega) (by omega) (by omega) (by omega)
  | _ + 2 => exact sb kw kx ky kz ⟨kd, kd'⟩ (by omega)
theorem moved_any (C D : Int) (x y q : Q) (w : World) (hCD : chkA C D = 0) (hC : -12 ≤ C ∧ C ≤ 12) (hD : -12 ≤ D ∧ D ≤ 12) (hx : Bx x) (hy : Bx y) (hq : Sm q) (hn : C * x.x * y.x + D * x.y * y.y - C * D * x.z * y.z = 0) :
    Calls Try.prog 19 #[.agg #[.int .i64 C, .int .i64 D], .agg #[.int .i64 (q).w, .int .i64 (q).x, .int .i64 (q).y, .int .i64 (q).z, .int .i64 (q).d], .agg #[.int .i64 (x).w, .int .i64 (x).x, .int .i64 (x).y, .int .i64 (x).z, .int .i64 (x).d], .agg #[.int .i64 (y).w, .int .i64 (y).x, .int .i64 (y).y, .int .i64 (y).z, .int .i64 (y).d]] w fun e w' => e = .returned (.tuple #[.agg #[.int .i64 ((img C D x y q).low).w, .int .i64 ((img C D x y q).low).x, .int .i64 ((img C D x y q).low).y, .int .i64 ((img C D x y q).low).z, .int .i64 ((img C D x y q).low).d], .bool true]) ∧ Below w.heap.size w w' := by
  have OF := O_fit (q := q) hC hD hx hy hq
  have PF := P_fit (q := q) hC hD hx hy hq hn
  obtain ⟨KF, -⟩ := K_fit hC hD hx hy hn
  have dx := hx.d
  have dy := hy.d
  have dq := hq.d
  have qw := hq.w
  have qx := hq.x
  have qy := hq.y
  have qz := hq.z
  refine moved_walk C D x y (mulq C D x y).low q (Oi C D x y q) (Pi_ C D x y q) w (Lib.hid fun W => ?_) (Lib.hid fun W => ?_) (Lib.hid fun i W hi => ?_) (Lib.hid fun i W hi => ?_)
  · have := Mul_ok C D x.w x.x x.y x.z x.d y.w y.x y.y y.z y.d W (by unfold err3; rw [hCD, or2_z, box_q hx, or2_z]; exact box_q hy)
    rw [(fits (q := mulq C D ⟨x.w, x.x, x.y, x.z, x.d⟩ ⟨y.w, y.x, y.y, y.z, y.d⟩) KF).1, (fits (q := mulq C D ⟨x.w, x.x, x.y, x.z, x.d⟩ ⟨y.w, y.x, y.y, y.z, y.d⟩) KF).2] at this
    exact this
  · have := Scale_ok 1 0 0 0 1 q.w q.d W (by decide) (fr_ok (by omega) dq)
    rw [(fits (q := scaleq ⟨1, 0, 0, 0, 1⟩ q.w q.d) (OF 0)).1, (fits (q := scaleq ⟨1, 0, 0, 0, 1⟩ q.w q.d) (OF 0)).2] at this
    exact this
  · match i, hi with
    | 0, _ =>
      have := Scale_ok x.w x.x x.y x.z x.d q.x q.d W (box_q hx) (fr_ok (by omega) dq)
      rw [(fits (q := scaleq ⟨x.w, x.x, x.y, x.z, x.d⟩ q.x q.d) (PF 0)).1, (fits (q := scaleq ⟨x.w, x.x, x.y, x.z, x.d⟩ q.x q.d) (PF 0)).2] at this
      exact this
    | 1, _ =>
      have := Scale_ok y.w y.x y.y y.z y.d q.y q.d W (box_q hy) (fr_ok (by omega) dq)
      rw [(fits (q := scaleq ⟨y.w, y.x, y.y, y.z, y.d⟩ q.y q.d) (PF 1)).1, (fits (q := scaleq ⟨y.w, y.x, y.y, y.z, y.d⟩ q.y q.d) (PF 1)).2] at this
      exact this
    | 2, _ =>
      have := Scale_ok _ _ _ _ _ q.z q.d W (chk_of KF) (fr_ok (by omega) dq)
      rw [(fits (q := scaleq (mulq C D x y).low q.z q.d) (PF 2)).1, (fits (q := scaleq (mulq C D x y).low q.z q.d) (PF 2)).2] at this
      exact this
  · have AO := Add_ok _ _ _ _ _ _ _ _ _ _ W (chk_of (OF i)) (chk_of (PF i))
    have e : (addq (Oi C D x y q i) (Pi_ C D x y q i)).low = Oi C D x y q (i + 1) := by
      match i, hi with
      | 0, _ => exact img1 (by omega) (by omega) hx.w
      | 1, _ => exact img2 (by omega) (by omega) (by omega) hy.w
      | 2, _ => exact img3 (by omega) (by omega) (by omega) hx.w hy.w hn
    have F := fits (q := addq (Oi C D x y q i) (Pi_ C D x y q i)) (by rw [e]; exact OF (i + 1))
    rw [show (Q.mk (Oi C D x y q i).w (Oi C D x y q i).x (Oi C D x y q i).y (Oi C D x y q i).z (Oi C D x y q i).d) = Oi C D x y q i from rfl, show (Q.mk (Pi_ C D x y q i).w (Pi_ C D x y q i).x (Pi_ C D x y q i).y (Pi_ C D x y q i).z (Pi_ C D x y q i).d) = Pi_ C D x y q i from rfl, F.1, F.2, e] at AO
    exact AO
end Go.Proofs.Ytgbnmnkgelklbaa.Ik
