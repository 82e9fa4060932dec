/-
  Plain mathematics of the law AlgebraMultiplies.
-/
import Derived.Test.YtgbnmnkgelklbaaAlm
namespace Go.Proofs.Ytgbnmnkgelklbaa.Alm
theorem low_mul_r {A B : Int} {p q : Q} (hp : 0 < p.d) (hq : 0 < q.d) : (mulq A B p q.low).low = (mulq A B p q).low := by
  obtain ⟨b, hb, e⟩ := q.lows hq
  have h2 := q.low_pos (by omega)
  rw [← Q.low_mulc (mulq A B p q.low) (Int.ne_of_gt (Int.mul_pos hp h2)) hb]
  congr 1
  conv => rhs; rw [e]
  generalize q.low = R
  apply Q.ext' <;> simp only [mulq, Q.mulc, pw, px, py, pz] <;> grind
theorem mult_yx {A B : Int} {p q : Q} (hp : 0 < p.d) (hq : 0 < q.d) : (mulq A B (conjq q).low (conjq p).low).low = (conjq (mulq A B p q).low).low := by
  rw [low_mul (p := conjq q) (q := conjq p) hq hp, conj_mul, low_conj (p := mulq A B p q) (Int.mul_pos hp hq)]
theorem mult_px {A B : Int} {p : Q} (hp : 0 < p.d) : (mulq A B p (conjq p).low).low = ⟨fn (nm A B p.w p.x p.y p.z) (p.d * p.d), 0, 0, 0, fd (nm A B p.w p.x p.y p.z) (p.d * p.d)⟩ := by
  rw [low_mul_r (q := conjq p) hp hp, mul_conj, low_two]
theorem mult_nm {A B : Int} {p q : Q} (hp : 0 < p.d) (hq : 0 < q.d) {u0 u1 v0 v1 : Int} (hu0 : fn (nm A B p.w p.x p.y p.z) (p.d * p.d) = u0) (hu1 : fd (nm A B p.w p.x p.y p.z) (p.d * p.d) = u1) (hv0 : fn (nm A B q.w q.x q.y q.z) (q.d * q.d) = v0) (hv1 : fd (nm A B q.w q.x q.y q.z) (q.d * q.d) = v1) (s : Q) (hs : (mulq A B p q).low = s) :
    fn (u0 * v0) (u1 * v1) = fn (nm A B s.w s.x s.y s.z) (s.d * s.d) ∧ fd (u0 * v0) (u1 * v1) = fd (nm A B s.w s.x s.y s.z) (s.d * s.d) := by
  have hM : 0 < (mulq A B p q).d := Int.mul_pos hp hq
  obtain ⟨c, hc, e⟩ := (mulq A B p q).lows hM
  have hsd : 0 < s.d := by rw [← hs]; exact Q.low_pos _ (by omega)
  rw [hs] at e
  have pp : 0 < p.d * p.d := Int.mul_pos hp hp
  have qq : 0 < q.d * q.d := Int.mul_pos hq hq
  have a1 := fn_mul (nm A B p.w p.x p.y p.z) (p.d * p.d)
  have a2 := fd_mul (nm A B p.w p.x p.y p.z) (p.d * p.d)
  have a3 := fn_mul (nm A B q.w q.x q.y q.z) (q.d * q.d)
  have a4 := fd_mul (nm A B q.w q.x q.y q.z) (q.d * q.d)
  have g1 := fg_pos (a := nm A B p.w p.x p.y p.z) pp
  have g2 := fg_pos (a := nm A B q.w q.x q.y q.z) qq
  have u1p : 0 < u1 := by rw [← hu1]; exact fd_pos pp
  have v1p : 0 < v1 := by rw [← hv1]; exact fd_pos qq
  rw [hu0] at a1; rw [hu1] at a2; rw [hv0] at a3; rw [hv1] at a4
  have hw : nm A B (mulq A B p q).w (mulq A B p q).x (mulq A B p q).y (mulq A B p q).z = nm A B p.w p.x p.y p.z * nm A B q.w q.x q.y q.z := nm_mul _ _ _ _ _ _ _ _ _ _
  have hd : (mulq A B p q).d = p.d * q.d := rfl
  have hw2 : nm A B (mulq A B p q).w (mulq A B p q).x (mulq A B p q).y (mulq A B p q).z = nm A B s.w s.x s.y s.z * (c * c) := by
    rw [e]; simp only [Q.mulc, nm]; grind
  have hd2 : (mulq A B p q).d = s.d * c := by rw [e]; rfl
  refine f_eq (Int.mul_pos u1p v1p) (Int.mul_pos hsd hsd) ?_
  generalize nm A B s.w s.x s.y s.z = ns at *
  generalize nm A B p.w p.x p.y p.z = np at *
  generalize nm A B q.w q.x q.y q.z = nq at *
  generalize fg np (p.d * p.d) = G1 at *
  generalize fg nq (q.d * q.d) = G2 at *
  have hne : G1 * G2 * (c * c) ≠ 0 := Int.ne_of_gt (Int.mul_pos (Int.mul_pos g1 g2) (Int.mul_pos hc hc))
  have k1 : np * nq = ns * (c * c) := by rw [← hw, hw2]
  have k2 : p.d * q.d = s.d * c := by rw [← hd, hd2]
  refine Int.eq_of_mul_eq_mul_right hne ?_
  have l1 : u0 * v0 * (s.d * s.d) * (G1 * G2 * (c * c)) = (u0 * G1) * (v0 * G2) * ((s.d * c) * (s.d * c)) := by grind
  have l2 : ns * (u1 * v1) * (G1 * G2 * (c * c)) = (ns * (c * c)) * ((u1 * G1) * (v1 * G2)) := by grind
  rw [l1, l2, a1, a2, a3, a4, ← k1, ← k2]
  grind
end Go.Proofs.Ytgbnmnkgelklbaa.Alm
