/-
  Plain mathematics: an isomorphism of quaternion algebras, given by the images of i and j, keeps products and norms.
-/
import Derived.Test.YtgbnmnkgelklbaaAlm
namespace Go.Proofs.Ytgbnmnkgelklbaa.Ik
open Alm
set_option linter.unusedVariables false
set_option maxHeartbeats 2000000
theorem xz {A C D x1 x2 x3 y1 y2 y3 z1 z2 z3 d : Int} (hx : C * x1 * x1 + D * x2 * x2 - C * D * x3 * x3 = A * d * d) (hn : C * x1 * y1 + D * x2 * y2 - C * D * x3 * y3 = 0)
    (h1 : z1 = D * (x3 * y2 - x2 * y3)) (h2 : z2 = C * (x1 * y3 - x3 * y1)) (h3 : z3 = x1 * y2 - x2 * y1) :
    D * (x3 * z2 - x2 * z3) = A * d * d * y1 ∧ C * (x1 * z3 - x3 * z1) = A * d * d * y2 ∧ x1 * z2 - x2 * z1 = A * d * d * y3 := by
  subst h1 h2 h3
  rw [← hx]
  have e1 : D * (x3 * (C * (x1 * y3 - x3 * y1)) - x2 * (x1 * y2 - x2 * y1)) = (C * x1 * x1 + D * x2 * x2 - C * D * x3 * x3) * y1 - (C * x1 * y1 + D * x2 * y2 - C * D * x3 * y3) * x1 := by grind
  have e2 : C * (x1 * (x1 * y2 - x2 * y1) - x3 * (D * (x3 * y2 - x2 * y3))) = (C * x1 * x1 + D * x2 * x2 - C * D * x3 * x3) * y2 - (C * x1 * y1 + D * x2 * y2 - C * D * x3 * y3) * x2 := by grind
  have e3 : x1 * (C * (x1 * y3 - x3 * y1)) - x2 * (D * (x3 * y2 - x2 * y3)) = (C * x1 * x1 + D * x2 * x2 - C * D * x3 * x3) * y3 - (C * x1 * y1 + D * x2 * y2 - C * D * x3 * y3) * x3 := by grind
  rw [hn] at e1 e2 e3
  refine ⟨?_, ?_, ?_⟩
  · rw [e1, Int.zero_mul, Int.sub_zero]
  · rw [e2, Int.zero_mul, Int.sub_zero]
  · rw [e3, Int.zero_mul, Int.sub_zero]
theorem yz {B C D x1 x2 x3 y1 y2 y3 z1 z2 z3 e : Int} (hy : C * y1 * y1 + D * y2 * y2 - C * D * y3 * y3 = B * e * e) (hn : C * x1 * y1 + D * x2 * y2 - C * D * x3 * y3 = 0)
    (h1 : z1 = D * (x3 * y2 - x2 * y3)) (h2 : z2 = C * (x1 * y3 - x3 * y1)) (h3 : z3 = x1 * y2 - x2 * y1) :
    D * (y3 * z2 - y2 * z3) = -(B * e * e * x1) ∧ C * (y1 * z3 - y3 * z1) = -(B * e * e * x2) ∧ y1 * z2 - y2 * z1 = -(B * e * e * x3) := by
  have hn' : C * y1 * x1 + D * y2 * x2 - C * D * y3 * x3 = 0 := by grind
  have := xz (z1 := -z1) (z2 := -z2) (z3 := -z3) hy hn' (by grind) (by grind) (by grind)
  obtain ⟨a, b, c⟩ := this
  refine ⟨by grind, by grind, by grind⟩
theorem dots {A B C D x1 x2 x3 y1 y2 y3 z1 z2 z3 d e : Int} (hx : C * x1 * x1 + D * x2 * x2 - C * D * x3 * x3 = A * d * d) (hy : C * y1 * y1 + D * y2 * y2 - C * D * y3 * y3 = B * e * e) (hn : C * x1 * y1 + D * x2 * y2 - C * D * x3 * y3 = 0)
    (h1 : z1 = D * (x3 * y2 - x2 * y3)) (h2 : z2 = C * (x1 * y3 - x3 * y1)) (h3 : z3 = x1 * y2 - x2 * y1) :
    C * x1 * z1 + D * x2 * z2 - C * D * x3 * z3 = 0 ∧ C * y1 * z1 + D * y2 * z2 - C * D * y3 * z3 = 0 ∧ C * z1 * z1 + D * z2 * z2 - C * D * z3 * z3 = -(A * B * d * d * e * e) := by
  subst h1 h2 h3
  refine ⟨by grind, by grind, ?_⟩
  have h : A * B * d * d * e * e = (A * d * d) * (B * e * e) := by grind
  rw [h, ← hx, ← hy]
  have : (C * x1 * y1 + D * x2 * y2 - C * D * x3 * y3) * (C * x1 * y1 + D * x2 * y2 - C * D * x3 * y3) = 0 := by rw [hn]; rfl
  grind
/-- an image: numerators over d e -/
def iw (d e w : Int) : Int := w * (d * e)
def ic (d e a b c x y z : Int) : Int := a * e * x + b * d * y + c * z
theorem keeps {A B C D x1 x2 x3 y1 y2 y3 z1 z2 z3 d e : Int} (hx : C * x1 * x1 + D * x2 * x2 - C * D * x3 * x3 = A * d * d) (hy : C * y1 * y1 + D * y2 * y2 - C * D * y3 * y3 = B * e * e) (hn : C * x1 * y1 + D * x2 * y2 - C * D * x3 * y3 = 0)
    (h1 : z1 = D * (x3 * y2 - x2 * y3)) (h2 : z2 = C * (x1 * y3 - x3 * y1)) (h3 : z3 = x1 * y2 - x2 * y1) (w a b c w' a' b' c' : Int) :
    pw C D (iw d e w) (ic d e a b c x1 y1 z1) (ic d e a b c x2 y2 z2) (ic d e a b c x3 y3 z3) (iw d e w') (ic d e a' b' c' x1 y1 z1) (ic d e a' b' c' x2 y2 z2) (ic d e a' b' c' x3 y3 z3) = d * e * iw d e (pw A B w a b c w' a' b' c') ∧
    px D (iw d e w) (ic d e a b c x1 y1 z1) (ic d e a b c x2 y2 z2) (ic d e a b c x3 y3 z3) (iw d e w') (ic d e a' b' c' x1 y1 z1) (ic d e a' b' c' x2 y2 z2) (ic d e a' b' c' x3 y3 z3) = d * e * ic d e (px B w a b c w' a' b' c') (py A w a b c w' a' b' c') (pz w a b c w' a' b' c') x1 y1 z1 ∧
    py C (iw d e w) (ic d e a b c x1 y1 z1) (ic d e a b c x2 y2 z2) (ic d e a b c x3 y3 z3) (iw d e w') (ic d e a' b' c' x1 y1 z1) (ic d e a' b' c' x2 y2 z2) (ic d e a' b' c' x3 y3 z3) = d * e * ic d e (px B w a b c w' a' b' c') (py A w a b c w' a' b' c') (pz w a b c w' a' b' c') x2 y2 z2 ∧
    pz (iw d e w) (ic d e a b c x1 y1 z1) (ic d e a b c x2 y2 z2) (ic d e a b c x3 y3 z3) (iw d e w') (ic d e a' b' c' x1 y1 z1) (ic d e a' b' c' x2 y2 z2) (ic d e a' b' c' x3 y3 z3) = d * e * ic d e (px B w a b c w' a' b' c') (py A w a b c w' a' b' c') (pz w a b c w' a' b' c') x3 y3 z3 := by
  obtain ⟨k1, k2, k3⟩ := xz hx hn h1 h2 h3
  obtain ⟨l1, l2, l3⟩ := yz hy hn h1 h2 h3
  obtain ⟨m1, m2, m3⟩ := dots hx hy hn h1 h2 h3
  unfold pw px py pz iw ic
  refine ⟨?_, ?_, ?_, ?_⟩
  · have e0 : w * (d * e) * (w' * (d * e)) + C * (a * e * x1 + b * d * y1 + c * z1) * (a' * e * x1 + b' * d * y1 + c' * z1) + D * (a * e * x2 + b * d * y2 + c * z2) * (a' * e * x2 + b' * d * y2 + c' * z2) - C * D * (a * e * x3 + b * d * y3 + c * z3) * (a' * e * x3 + b' * d * y3 + c' * z3)
        = w * w' * (d * e) * (d * e) + a * a' * e * e * (C * x1 * x1 + D * x2 * x2 - C * D * x3 * x3) + b * b' * d * d * (C * y1 * y1 + D * y2 * y2 - C * D * y3 * y3) + c * c' * (C * z1 * z1 + D * z2 * z2 - C * D * z3 * z3)
          + (a * b' + b * a') * e * d * (C * x1 * y1 + D * x2 * y2 - C * D * x3 * y3) + (a * c' + c * a') * e * (C * x1 * z1 + D * x2 * z2 - C * D * x3 * z3) + (b * c' + c * b') * d * (C * y1 * z1 + D * y2 * z2 - C * D * y3 * z3) := by clear hx hy hn h1 h2 h3 k1 k2 k3 l1 l2 l3 m1 m2 m3; grind
    rw [e0, hx, hy, hn, m1, m2, m3]
    clear e0 hx hy hn h1 h2 h3 k1 k2 k3 l1 l2 l3 m1 m2 m3
    grind
  · have e0 : w * (d * e) * (a' * e * x1 + b' * d * y1 + c' * z1) + (a * e * x1 + b * d * y1 + c * z1) * (w' * (d * e)) + D * ((a * e * x3 + b * d * y3 + c * z3) * (a' * e * x2 + b' * d * y2 + c' * z2) - (a * e * x2 + b * d * y2 + c * z2) * (a' * e * x3 + b' * d * y3 + c' * z3))
        = w * (d * e) * (a' * e * x1 + b' * d * y1 + c' * z1) + (a * e * x1 + b * d * y1 + c * z1) * (w' * (d * e)) + (a * b' - b * a') * e * d * (D * (x3 * y2 - x2 * y3)) + (a * c' - c * a') * e * (D * (x3 * z2 - x2 * z3)) + (b * c' - c * b') * d * (D * (y3 * z2 - y2 * z3)) := by clear hx hy hn h1 h2 h3 k1 k2 k3 l1 l2 l3 m1 m2 m3; grind
    rw [e0, ← h1, k1, l1]
    clear e0 hx hy hn h1 h2 h3 k1 k2 k3 l1 l2 l3 m1 m2 m3
    grind
  · have e0 : w * (d * e) * (a' * e * x2 + b' * d * y2 + c' * z2) + (a * e * x2 + b * d * y2 + c * z2) * (w' * (d * e)) + C * ((a * e * x1 + b * d * y1 + c * z1) * (a' * e * x3 + b' * d * y3 + c' * z3) - (a * e * x3 + b * d * y3 + c * z3) * (a' * e * x1 + b' * d * y1 + c' * z1))
        = w * (d * e) * (a' * e * x2 + b' * d * y2 + c' * z2) + (a * e * x2 + b * d * y2 + c * z2) * (w' * (d * e)) + (a * b' - b * a') * e * d * (C * (x1 * y3 - x3 * y1)) + (a * c' - c * a') * e * (C * (x1 * z3 - x3 * z1)) + (b * c' - c * b') * d * (C * (y1 * z3 - y3 * z1)) := by clear hx hy hn h1 h2 h3 k1 k2 k3 l1 l2 l3 m1 m2 m3; grind
    rw [e0, ← h2, k2, l2]
    clear e0 hx hy hn h1 h2 h3 k1 k2 k3 l1 l2 l3 m1 m2 m3
    grind
  · have e0 : w * (d * e) * (a' * e * x3 + b' * d * y3 + c' * z3) + (a * e * x3 + b * d * y3 + c * z3) * (w' * (d * e)) + (a * e * x1 + b * d * y1 + c * z1) * (a' * e * x2 + b' * d * y2 + c' * z2) - (a * e * x2 + b * d * y2 + c * z2) * (a' * e * x1 + b' * d * y1 + c' * z1)
        = w * (d * e) * (a' * e * x3 + b' * d * y3 + c' * z3) + (a * e * x3 + b * d * y3 + c * z3) * (w' * (d * e)) + (a * b' - b * a') * e * d * (x1 * y2 - x2 * y1) + (a * c' - c * a') * e * (x1 * z2 - x2 * z1) + (b * c' - c * b') * d * (y1 * z2 - y2 * z1) := by clear hx hy hn h1 h2 h3 k1 k2 k3 l1 l2 l3 m1 m2 m3; grind
    rw [e0, ← h3, k3, l3]
    clear e0 hx hy hn h1 h2 h3 k1 k2 k3 l1 l2 l3 m1 m2 m3
    grind
theorem norms {A B C D x1 x2 x3 y1 y2 y3 z1 z2 z3 d e : Int} (hx : C * x1 * x1 + D * x2 * x2 - C * D * x3 * x3 = A * d * d) (hy : C * y1 * y1 + D * y2 * y2 - C * D * y3 * y3 = B * e * e) (hn : C * x1 * y1 + D * x2 * y2 - C * D * x3 * y3 = 0)
    (h1 : z1 = D * (x3 * y2 - x2 * y3)) (h2 : z2 = C * (x1 * y3 - x3 * y1)) (h3 : z3 = x1 * y2 - x2 * y1) (w a b c : Int) :
    nm C D (iw d e w) (ic d e a b c x1 y1 z1) (ic d e a b c x2 y2 z2) (ic d e a b c x3 y3 z3) = (d * e) * (d * e) * nm A B w a b c := by
  have h := (keeps hx hy hn h1 h2 h3 w a b c w (-a) (-b) (-c)).1
  unfold nm
  unfold pw iw ic at *
  clear hx hy hn h1 h2 h3
  grind
end Go.Proofs.Ytgbnmnkgelklbaa.Ik
