/-
  Plain mathematics: how an image is added up, in lowest terms; what is mapped is multiplied as before.
-/
import Derived.Test.YtgbnmnkgelklbaaIk0
namespace Go.Proofs.Ytgbnmnkgelklbaa.Ik
open Alm
set_option linter.unusedVariables false
theorem sc_low_l {q : Q} {n f : Int} (hq : 0 < q.d) (hf : 0 < f) : (scaleq q.low n f).low = (scaleq q n f).low := by
  obtain ⟨c, hc, e⟩ := q.lows hq
  have h1 := q.low_pos (by omega)
  rw [← Q.low_mulc (scaleq q.low n f) (Int.ne_of_gt (Int.mul_pos h1 hf)) hc]
  congr 1
  conv => rhs; rw [e]
  generalize q.low = P
  apply Q.ext' <;> simp only [scaleq, Q.mulc] <;> grind
def stp1 (x q : Q) : Q := ⟨q.w * x.d, q.x * x.x, q.x * x.y, q.x * x.z, q.d * x.d⟩
def stp2 (x y q : Q) : Q := ⟨q.w * (x.d * y.d), q.x * y.d * x.x + q.y * x.d * y.x, q.x * y.d * x.y + q.y * x.d * y.y, q.x * y.d * x.z + q.y * x.d * y.z, q.d * (x.d * y.d)⟩
/-- the image of an element -/
def img (C D : Int) (x y q : Q) : Q :=
  ⟨iw x.d y.d q.w, ic x.d y.d q.x q.y q.z x.x y.x (D * (x.z * y.y - x.y * y.z)), ic x.d y.d q.x q.y q.z x.y y.y (C * (x.x * y.z - x.z * y.x)), ic x.d y.d q.x q.y q.z x.z y.z (x.x * y.y - x.y * y.x), q.d * (x.d * y.d)⟩
theorem img1 {x q : Q} (hx : 0 < x.d) (hq : 0 < q.d) (hw : x.w = 0) : (addq (scaleq ⟨1, 0, 0, 0, 1⟩ q.w q.d).low (scaleq x q.x q.d).low).low = (stp1 x q).low := by
  have h1 : 0 < (scaleq ⟨1, 0, 0, 0, 1⟩ q.w q.d).d := by simp only [scaleq]; omega
  have h2 : 0 < (scaleq x q.x q.d).d := Int.mul_pos hx hq
  rw [low_add h1 h2]
  refine low_eq (Int.mul_pos h1 h2) (Int.mul_pos hq hx) ?_ ?_ ?_ ?_ <;> simp only [addq, scaleq, stp1, hw] <;> grind
theorem img2 {x y q : Q} (hx : 0 < x.d) (hy : 0 < y.d) (hq : 0 < q.d) (hw : y.w = 0) : (addq (stp1 x q).low (scaleq y q.y q.d).low).low = (stp2 x y q).low := by
  have h1 : 0 < (stp1 x q).d := Int.mul_pos hq hx
  have h2 : 0 < (scaleq y q.y q.d).d := Int.mul_pos hy hq
  rw [low_add h1 h2]
  refine low_eq (Int.mul_pos h1 h2) (Int.mul_pos hq (Int.mul_pos hx hy)) ?_ ?_ ?_ ?_ <;> simp only [addq, scaleq, stp1, stp2, hw] <;> grind
theorem img3 {C D : Int} {x y q : Q} (hx : 0 < x.d) (hy : 0 < y.d) (hq : 0 < q.d) (hxw : x.w = 0) (hyw : y.w = 0) (hn : C * x.x * y.x + D * x.y * y.y - C * D * x.z * y.z = 0) :
    (addq (stp2 x y q).low (scaleq (mulq C D x y).low q.z q.d).low).low = (img C D x y q).low := by
  have hk : 0 < (mulq C D x y).d := Int.mul_pos hx hy
  rw [sc_low_l hk hq]
  have h1 : 0 < (stp2 x y q).d := Int.mul_pos hq (Int.mul_pos hx hy)
  have h2 : 0 < (scaleq (mulq C D x y) q.z q.d).d := Int.mul_pos hk hq
  rw [low_add h1 h2]
  have e0 : pw C D 0 x.x x.y x.z 0 y.x y.y y.z = 0 := by unfold pw; rw [Int.zero_mul, Int.zero_add]; exact hn
  refine low_eq (Int.mul_pos h1 h2) (Int.mul_pos hq (Int.mul_pos hx hy)) ?_ ?_ ?_ ?_ <;> simp only [addq, scaleq, stp2, img, mulq, hxw, hyw, e0, px, py, pz, iw, ic] <;> clear hn e0 <;> grind
/-- what x and y must be -/
structure Iso (A B C D : Int) (x y : Q) : Prop where
  dx : 0 < x.d
  dy : 0 < y.d
  xw : x.w = 0
  yw : y.w = 0
  sx : C * x.x * x.x + D * x.y * x.y - C * D * x.z * x.z = A * x.d * x.d
  sy : C * y.x * y.x + D * y.y * y.y - C * D * y.z * y.z = B * y.d * y.d
  xy : C * x.x * y.x + D * x.y * y.y - C * D * x.z * y.z = 0
theorem img_low {C D : Int} {x y q : Q} (hx : 0 < x.d) (hy : 0 < y.d) (hq : 0 < q.d) : (img C D x y q.low).low = (img C D x y q).low := by
  obtain ⟨c, hc, e⟩ := q.lows hq
  have h1 := q.low_pos (by omega)
  rw [← Q.low_mulc (img C D x y q.low) (Int.ne_of_gt (Int.mul_pos h1 (Int.mul_pos hx hy))) hc]
  congr 1
  conv => rhs; rw [e]
  generalize q.low = P
  apply Q.ext' <;> simp only [img, iw, ic, Q.mulc] <;> grind
theorem img_mul {A B C D : Int} {x y p q : Q} (h : Iso A B C D x y) (hp : 0 < p.d) (hq : 0 < q.d) : (mulq C D (img C D x y p).low (img C D x y q).low).low = (img C D x y (mulq A B p q).low).low := by
  have hde := Int.mul_pos h.dx h.dy
  have h1 : 0 < (img C D x y p).d := Int.mul_pos hp hde
  have h2 : 0 < (img C D x y q).d := Int.mul_pos hq hde
  have h3 : 0 < (mulq A B p q).d := Int.mul_pos hp hq
  rw [low_mul h1 h2, img_low h.dx h.dy h3]
  obtain ⟨k1, k2, k3, k4⟩ := keeps h.sx h.sy h.xy rfl rfl rfl p.w p.x p.y p.z q.w q.x q.y q.z
  have h4 : 0 < (img C D x y (mulq A B p q)).d := Int.mul_pos h3 hde
  refine low_eq (Int.mul_pos h1 h2) h4 ?_ ?_ ?_ ?_
  · show pw C D _ _ _ _ _ _ _ _ * _ = _
    simp only [img, mulq]
    rw [k1]
    clear k1 k2 k3 k4
    grind
  · show px D _ _ _ _ _ _ _ _ * _ = _
    simp only [img, mulq]
    rw [k2]
    clear k1 k2 k3 k4
    grind
  · show py C _ _ _ _ _ _ _ _ * _ = _
    simp only [img, mulq]
    rw [k3]
    clear k1 k2 k3 k4
    grind
  · show pz _ _ _ _ _ _ _ _ * _ = _
    simp only [img, mulq]
    rw [k4]
    clear k1 k2 k3 k4
    grind
theorem img_norm {A B C D : Int} {x y p : Q} (h : Iso A B C D x y) (hp : 0 < p.d) :
    fn (nm C D (img C D x y p).low.w (img C D x y p).low.x (img C D x y p).low.y (img C D x y p).low.z) ((img C D x y p).low.d * (img C D x y p).low.d) = fn (nm A B p.w p.x p.y p.z) (p.d * p.d) ∧
    fd (nm C D (img C D x y p).low.w (img C D x y p).low.x (img C D x y p).low.y (img C D x y p).low.z) ((img C D x y p).low.d * (img C D x y p).low.d) = fd (nm A B p.w p.x p.y p.z) (p.d * p.d) := by
  have hde := Int.mul_pos h.dx h.dy
  have h1 : 0 < (img C D x y p).d := Int.mul_pos hp hde
  obtain ⟨c, hc, e⟩ := (img C D x y p).lows h1
  have h2 := (img C D x y p).low_pos (by omega)
  have hn := norms h.sx h.sy h.xy rfl rfl rfl p.w p.x p.y p.z
  have e1 : nm C D (img C D x y p).w (img C D x y p).x (img C D x y p).y (img C D x y p).z = (x.d * y.d) * (x.d * y.d) * nm A B p.w p.x p.y p.z := hn
  have e2 : (img C D x y p).d = p.d * (x.d * y.d) := rfl
  generalize hI : img C D x y p = I at *
  generalize I.low = L at *
  subst e
  simp only [Q.mulc] at e1 e2
  refine f_eq (Int.mul_pos h2 h2) (Int.mul_pos hp hp) ?_
  have e3 : nm C D (L.w * c) (L.x * c) (L.y * c) (L.z * c) = c * c * nm C D L.w L.x L.y L.z := by unfold nm; grind
  rw [e3] at e1
  have hcc : c * c ≠ 0 := Int.ne_of_gt (Int.mul_pos hc hc)
  apply Int.eq_of_mul_eq_mul_left hcc
  have e4 : c * c * (nm C D L.w L.x L.y L.z * (p.d * p.d)) = (c * c * nm C D L.w L.x L.y L.z) * (p.d * p.d) := by grind
  rw [e4, e1]
  have e5 : c * c * (nm A B p.w p.x p.y p.z * (L.d * L.d)) = nm A B p.w p.x p.y p.z * ((L.d * c) * (L.d * c)) := by grind
  rw [e5, e2]
  grind
end Go.Proofs.Ytgbnmnkgelklbaa.Ik
