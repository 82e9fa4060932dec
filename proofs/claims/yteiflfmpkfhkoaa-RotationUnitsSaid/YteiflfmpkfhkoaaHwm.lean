/-
  Plain mathematics of Hurwitz quaternions by their doubled coordinates: products, norms, division with remainder.
-/
import Derived.Test.YteiflfmpkfhkoaaAlm
namespace Go.Proofs.Yteiflfmpkfhkoaa.Hwm
open Alm
set_option linter.unusedVariables false
set_option linter.unusedSimpArgs false
/-- four numbers -/
structure H where
  w : Int
  x : Int
  y : Int
  z : Int
theorem H.ext' {p q : H} (h1 : p.w = q.w) (h2 : p.x = q.x) (h3 : p.y = q.y) (h4 : p.z = q.z) : p = q := by
  obtain ⟨a, b, c, d⟩ := p; obtain ⟨e, f, g, h⟩ := q; simp only at h1 h2 h3 h4; subst h1 h2 h3 h4; rfl
def H.zero : H := ⟨0, 0, 0, 0⟩
/-- the product of quaternions -/
def P (a b : H) : H :=
  ⟨a.w * b.w - a.x * b.x - a.y * b.y - a.z * b.z, a.w * b.x + a.x * b.w + a.y * b.z - a.z * b.y, a.w * b.y + a.y * b.w + a.z * b.x - a.x * b.z, a.w * b.z + a.z * b.w + a.x * b.y - a.y * b.x⟩
def H.conj (a : H) : H := ⟨a.w, -a.x, -a.y, -a.z⟩
def H.sub (a b : H) : H := ⟨a.w - b.w, a.x - b.x, a.y - b.y, a.z - b.z⟩
def H.sc (a : H) (n : Int) : H := ⟨a.w * n, a.x * n, a.y * n, a.z * n⟩
def H.ov (a : H) (n : Int) : H := ⟨a.w.tdiv n, a.x.tdiv n, a.y.tdiv n, a.z.tdiv n⟩
/-- the sum of the squares -/
def nn (a : H) : Int := a.w * a.w + a.x * a.x + a.y * a.y + a.z * a.z
/-- the norm, by doubled coordinates -/
def N (a : H) : Int := (nn a).tdiv 4
/-- the product, by doubled coordinates -/
def by_ (a b : H) : H := (P a b).ov 2
/-- all even or all odd -/
def par (a : H) : Prop := a.x % 2 = a.w % 2 ∧ a.y % 2 = a.w % 2 ∧ a.z % 2 = a.w % 2
instance (a : H) : Decidable (par a) := by unfold par; infer_instance
theorem msn (a : Int) : 0 ≤ a * a := by have := @Int.natAbs_mul_self a; omega
theorem nn_nonneg (a : H) : 0 ≤ nn a := by
  unfold nn
  have h1 := msn a.w; have h2 := msn a.x; have h3 := msn a.y; have h4 := msn a.z
  omega
theorem sq_le {a : Int} {n : Int} (hn : 0 ≤ n) (h : a * a ≤ n * n) : -n ≤ a ∧ a ≤ n := by
  constructor
  · rcases Int.lt_or_le a (-n) with h1 | h1
    · have h2 : (n + 1) * (n + 1) ≤ (-a) * (-a) := Int.mul_le_mul (by omega) (by omega) (by omega) (by omega)
      have h3 : (-a) * (-a) = a * a := by grind
      have h4 : (n + 1) * (n + 1) = n * n + 2 * n + 1 := by grind
      omega
    · exact h1
  · rcases Int.lt_or_le n a with h1 | h1
    · have h2 : (n + 1) * (n + 1) ≤ a * a := Int.mul_le_mul (by omega) (by omega) (by omega) (by omega)
      have h4 : (n + 1) * (n + 1) = n * n + 2 * n + 1 := by grind
      omega
    · exact h1
theorem nn_bd {a : H} {n : Int} (hn : 0 ≤ n) (h : nn a ≤ n * n) : (-n ≤ a.w ∧ a.w ≤ n) ∧ (-n ≤ a.x ∧ a.x ≤ n) ∧ (-n ≤ a.y ∧ a.y ≤ n) ∧ (-n ≤ a.z ∧ a.z ≤ n) := by
  unfold nn at h
  have h1 := msn a.w; have h2 := msn a.x; have h3 := msn a.y; have h4 := msn a.z
  exact ⟨sq_le hn (by omega), sq_le hn (by omega), sq_le hn (by omega), sq_le hn (by omega)⟩
theorem nn_P (a b : H) : nn (P a b) = nn a * nn b := by
  unfold nn P; grind
theorem P_assoc (a b c : H) : P (P a b) c = P a (P b c) := by
  unfold P; refine H.ext' ?_ ?_ ?_ ?_ <;> simp only [] <;> grind
theorem nn_conj (a : H) : nn a.conj = nn a := by unfold nn H.conj; grind
theorem P_conj (a : H) : P a.conj a = ⟨nn a, 0, 0, 0⟩ := by
  unfold P nn H.conj; refine H.ext' ?_ ?_ ?_ ?_ <;> simp only [] <;> grind
theorem P_conj' (a : H) : P a a.conj = ⟨nn a, 0, 0, 0⟩ := by
  unfold P nn H.conj; refine H.ext' ?_ ?_ ?_ ?_ <;> simp only [] <;> grind
theorem P_scal (n : Int) (a : H) : P ⟨n, 0, 0, 0⟩ a = a.sc n := by
  unfold P H.sc; refine H.ext' ?_ ?_ ?_ ?_ <;> simp only [] <;> grind
theorem P_scal' (n : Int) (a : H) : P a ⟨n, 0, 0, 0⟩ = a.sc n := by
  unfold P H.sc; refine H.ext' ?_ ?_ ?_ ?_ <;> simp only [] <;> grind
theorem P_sc (a b : H) (n : Int) : P (a.sc n) b = (P a b).sc n := by
  unfold P H.sc; refine H.ext' ?_ ?_ ?_ ?_ <;> simp only [] <;> grind
theorem P_sc' (a b : H) (n : Int) : P a (b.sc n) = (P a b).sc n := by
  unfold P H.sc; refine H.ext' ?_ ?_ ?_ ?_ <;> simp only [] <;> grind
theorem P_sub (a b c : H) : P a (b.sub c) = (P a b).sub (P a c) := by
  unfold P H.sub; refine H.ext' ?_ ?_ ?_ ?_ <;> simp only [] <;> grind
theorem nn_sc (a : H) (n : Int) : nn (a.sc n) = nn a * (n * n) := by unfold nn H.sc; grind
theorem sc_sc (a : H) (m n : Int) : (a.sc m).sc n = a.sc (m * n) := by unfold H.sc; refine H.ext' ?_ ?_ ?_ ?_ <;> simp only [] <;> grind
theorem sc_inj {a b : H} {n : Int} (hn : n ≠ 0) (h : a.sc n = b.sc n) : a = b := by
  unfold H.sc at h; injection h with h1 h2 h3 h4
  exact H.ext' (Int.eq_of_mul_eq_mul_right hn h1) (Int.eq_of_mul_eq_mul_right hn h2) (Int.eq_of_mul_eq_mul_right hn h3) (Int.eq_of_mul_eq_mul_right hn h4)
theorem ex_ (k l s t : Int) : (2 * k + s) * (2 * l + t) = 4 * (k * l) + 2 * (t * k) + 2 * (s * l) + s * t := by grind
theorem par_ex {a : H} (h : par a) : ∃ k1 k2 k3 k4 s : Int, (s = 0 ∨ s = 1) ∧ a = ⟨2 * k1 + s, 2 * k2 + s, 2 * k3 + s, 2 * k4 + s⟩ := by
  obtain ⟨h1, h2, h3⟩ := h
  refine ⟨a.w / 2, a.x / 2, a.y / 2, a.z / 2, a.w % 2, by omega, H.ext' ?_ ?_ ?_ ?_⟩ <;> simp only [] <;> omega
/-- products of uniform numbers: twice uniform ones -/
theorem P_par {a b : H} (ha : par a) (hb : par b) : ∃ c : H, par c ∧ P a b = c.sc 2 := by
  obtain ⟨k1, k2, k3, k4, s, hs, rfl⟩ := par_ex ha
  obtain ⟨l1, l2, l3, l4, t, ht, rfl⟩ := par_ex hb
  refine ⟨⟨(P ⟨2 * k1 + s, 2 * k2 + s, 2 * k3 + s, 2 * k4 + s⟩ ⟨2 * l1 + t, 2 * l2 + t, 2 * l3 + t, 2 * l4 + t⟩).w / 2, (P ⟨2 * k1 + s, 2 * k2 + s, 2 * k3 + s, 2 * k4 + s⟩ ⟨2 * l1 + t, 2 * l2 + t, 2 * l3 + t, 2 * l4 + t⟩).x / 2, (P ⟨2 * k1 + s, 2 * k2 + s, 2 * k3 + s, 2 * k4 + s⟩ ⟨2 * l1 + t, 2 * l2 + t, 2 * l3 + t, 2 * l4 + t⟩).y / 2, (P ⟨2 * k1 + s, 2 * k2 + s, 2 * k3 + s, 2 * k4 + s⟩ ⟨2 * l1 + t, 2 * l2 + t, 2 * l3 + t, 2 * l4 + t⟩).z / 2⟩, ?_⟩
  unfold par H.sc P
  simp only [ex_, H.mk.injEq]
  rcases hs with rfl | rfl <;> rcases ht with rfl | rfl <;> simp only [Int.one_mul, Int.zero_mul, Int.mul_one, Int.mul_zero] <;> omega
theorem ov_sc (a : H) {n : Int} (hn : n ≠ 0) : (a.sc n).ov n = a := by
  unfold H.sc H.ov; refine H.ext' ?_ ?_ ?_ ?_ <;> exact Int.mul_tdiv_cancel _ hn
theorem by_sc {a b : H} (ha : par a) (hb : par b) : par (by_ a b) ∧ P a b = (by_ a b).sc 2 := by
  obtain ⟨c, hc, he⟩ := P_par ha hb
  unfold by_; rw [he, ov_sc _ (by omega)]; exact ⟨hc, rfl⟩
theorem nn_par {a : H} (ha : par a) : nn a = N a * 4 := by
  obtain ⟨k1, k2, k3, k4, s, hs, rfl⟩ := par_ex ha
  unfold N
  have h : ∃ k, nn ⟨2 * k1 + s, 2 * k2 + s, 2 * k3 + s, 2 * k4 + s⟩ = k * 4 := by
    refine ⟨nn ⟨2 * k1 + s, 2 * k2 + s, 2 * k3 + s, 2 * k4 + s⟩ / 4, ?_⟩
    unfold nn
    simp only [ex_]
    rcases hs with rfl | rfl <;> simp only [Int.one_mul, Int.zero_mul, Int.mul_one, Int.mul_zero] <;> omega
  obtain ⟨k, hk⟩ := h
  rw [hk, Int.mul_tdiv_cancel _ (by omega)]
theorem par_conj {a : H} (ha : par a) : par a.conj := by
  obtain ⟨h1, h2, h3⟩ := ha
  unfold H.conj par; simp only []; omega
theorem par_sub {a b : H} (ha : par a) (hb : par b) : par (a.sub b) := by
  obtain ⟨h1, h2, h3⟩ := ha; obtain ⟨g1, g2, g3⟩ := hb
  unfold H.sub par; simp only []; omega
theorem N_nonneg (a : H) : 0 ≤ N a := Int.tdiv_nonneg (nn_nonneg a) (by omega)
theorem N_by {a b : H} (ha : par a) (hb : par b) : N (by_ a b) = N a * N b := by
  obtain ⟨hp, he⟩ := by_sc ha hb
  have h1 := nn_P a b
  rw [he, nn_sc, nn_par hp, nn_par ha, nn_par hb] at h1
  have h2 : N (by_ a b) * 4 * (2 * 2) = N (by_ a b) * 16 := by omega
  have h3 : N a * 4 * (N b * 4) = N a * N b * 16 := by grind
  omega
theorem by_assoc {a b c : H} (ha : par a) (hb : par b) (hc : par c) : by_ (by_ a b) c = by_ a (by_ b c) := by
  obtain ⟨p1, e1⟩ := by_sc ha hb
  obtain ⟨p2, e2⟩ := by_sc hb hc
  obtain ⟨p3, e3⟩ := by_sc p1 hc
  obtain ⟨p4, e4⟩ := by_sc ha p2
  have h := P_assoc a b c
  rw [e1, e2, P_sc, P_sc', e3, e4] at h
  exact sc_inj (by omega) (sc_inj (by omega) h)
theorem nn_zero {a : H} (h : nn a = 0) : a = H.zero := by
  have := nn_bd (n := 0) (by omega) (a := a) (by omega)
  exact H.ext' (by show a.w = 0; omega) (by show a.x = 0; omega) (by show a.y = 0; omega) (by show a.z = 0; omega)
theorem nn_pos {a : H} (h : a ≠ H.zero) : 0 < nn a := by
  have := nn_nonneg a
  rcases Int.lt_or_eq_of_le this with h1 | h1
  · exact h1
  · exact absurd (nn_zero h1.symm) h
/-- the two quotients of n / d: rounded to integers, and to halves of odd integers -/
def qi (n : H) (d : Int) : H := ⟨2 * ((2 * n.w + d) / (2 * d)), 2 * ((2 * n.x + d) / (2 * d)), 2 * ((2 * n.y + d) / (2 * d)), 2 * ((2 * n.z + d) / (2 * d))⟩
def qh (n : H) (d : Int) : H := ⟨2 * (n.w / d) + 1, 2 * (n.x / d) + 1, 2 * (n.y / d) + 1, 2 * (n.z / d) + 1⟩
def ri (x y : H) : H := x.sub (by_ y (qi (P y.conj x) (nn y)))
def rh (x y : H) : H := x.sub (by_ y (qh (P y.conj x) (nn y)))
def quo (x y : H) : H := if N (rh x y) < N (ri x y) then qh (P y.conj x) (nn y) else qi (P y.conj x) (nn y)
def rem (x y : H) : H := if N (rh x y) < N (ri x y) then rh x y else ri x y
theorem par_qi (n : H) (d : Int) : par (qi n d) := by unfold par qi; simp only []; omega
theorem par_qh (n : H) (d : Int) : par (qh n d) := by unfold par qh; simp only []; omega
theorem par_quo (x y : H) : par (quo x y) := by unfold quo; split; exact par_qh _ _; exact par_qi _ _
theorem par_ri {x y : H} (hx : par x) (hy : par y) : par (ri x y) := par_sub hx (by_sc hy (par_qi _ _)).1
theorem par_rh {x y : H} (hx : par x) (hy : par y) : par (rh x y) := par_sub hx (by_sc hy (par_qh _ _)).1
theorem par_rem {x y : H} (hx : par x) (hy : par y) : par (rem x y) := by unfold rem; split; exact par_rh hx hy; exact par_ri hx hy
/-- what a quotient leaves over, against the divisor -/
theorem left_over {x y a : H} (hy : par y) (ha : par a) :
    nn y * nn (x.sub (by_ y a)) * 4 = nn (((P y.conj x).sc 2).sub (a.sc (nn y))) := by
  obtain ⟨p1, e1⟩ := by_sc hy ha
  have h1 : P y.conj (P y a) = a.sc (nn y) := by rw [← P_assoc, P_conj, P_scal]
  have h2 : ((P y.conj x).sc 2).sub (a.sc (nn y)) = (P y.conj (x.sub (by_ y a))).sc 2 := by
    rw [P_sub, ← h1, e1, P_sc']
    unfold H.sc H.sub; refine H.ext' ?_ ?_ ?_ ?_ <;> simp only [] <;> grind
  rw [h2, nn_sc, nn_P, nn_conj]
  omega
theorem sq_bd {d u : Int} (h1 : -d ≤ u) (h2 : u ≤ d) : u * u ≤ d * d := by
  have h3 := Int.mul_nonneg (show 0 ≤ d - u by omega) (show 0 ≤ d + u by omega)
  have h4 : (d - u) * (d + u) = d * d - u * u := by grind
  omega
theorem round_i (c : Int) {d : Int} (hd : 0 < d) : -d ≤ c * 2 - (2 * ((2 * c + d) / (2 * d))) * d ∧ c * 2 - (2 * ((2 * c + d) / (2 * d))) * d < d := by
  have h1 := Int.emod_add_mul_ediv (2 * c + d) (2 * d)
  have h2 := Int.emod_nonneg (2 * c + d) (show 2 * d ≠ 0 by omega)
  have h3 := Int.emod_lt_of_pos (2 * c + d) (show 0 < 2 * d by omega)
  have h4 : (2 * ((2 * c + d) / (2 * d))) * d = 2 * d * ((2 * c + d) / (2 * d)) := by grind
  omega
theorem round_h (c : Int) {d : Int} (hd : 0 < d) : -d ≤ c * 2 - (2 * (c / d) + 1) * d ∧ c * 2 - (2 * (c / d) + 1) * d < d := by
  have h1 := Int.emod_add_mul_ediv c d
  have h2 := Int.emod_nonneg c (show d ≠ 0 by omega)
  have h3 := Int.emod_lt_of_pos c hd
  have h4 : (2 * (c / d) + 1) * d = 2 * (d * (c / d)) + d := by grind
  omega
/-- where the first rounding is off by a half, the second one is exact -/
theorem round_both (c : Int) {d : Int} (hd : 0 < d) (h : c * 2 - (2 * ((2 * c + d) / (2 * d))) * d = -d) : c * 2 - (2 * (c / d) + 1) * d = 0 := by
  have h4 : (2 * ((2 * c + d) / (2 * d))) * d = 2 * (d * ((2 * c + d) / (2 * d))) := by grind
  have h5 : (2 * (c / d) + 1) * d = 2 * (d * (c / d)) + d := by grind
  generalize (2 * c + d) / (2 * d) = f at *
  have h1 := Int.emod_add_mul_ediv c d
  have h2 := Int.emod_nonneg c (show d ≠ 0 by omega)
  have h3 := Int.emod_lt_of_pos c hd
  generalize c / d = g at *
  generalize c % d = m at *
  -- 2 c = d (2 f - 1), c = m + d g: so d (2 f - 1 - 2 g) = 2 m, from 0 to below 2 d: 2 f - 1 - 2 g = 1
  have h6 : d * (2 * f - 1 - 2 * g) = 2 * m := by
    have : d * (2 * f - 1 - 2 * g) = 2 * (d * f) - d - 2 * (d * g) := by grind
    omega
  have h7 : 0 ≤ 2 * f - 1 - 2 * g := by
    rcases Int.lt_or_le (2 * f - 1 - 2 * g) 0 with h | h
    · have := Int.mul_neg_of_pos_of_neg hd h; omega
    · exact h
  have h8 : 2 * f - 1 - 2 * g < 2 := by
    rcases Int.lt_or_le (2 * f - 1 - 2 * g) 2 with h | h
    · exact h
    · have := Int.mul_le_mul_of_nonneg_left h (show 0 ≤ d by omega); omega
  have h9 : 2 * f - 1 - 2 * g = 1 := by omega
  rw [h9] at h6
  omega
theorem nn_le {a : H} {d : Int} (h0 : -d ≤ a.w ∧ a.w ≤ d) (h1 : -d ≤ a.x ∧ a.x ≤ d) (h2 : -d ≤ a.y ∧ a.y ≤ d) (h3 : -d ≤ a.z ∧ a.z ≤ d) : nn a ≤ d * d * 4 := by
  unfold nn
  have g0 := sq_bd h0.1 h0.2; have g1 := sq_bd h1.1 h1.2; have g2 := sq_bd h2.1 h2.2; have g3 := sq_bd h3.1 h3.2
  omega
theorem le_of_left {d r : Int} (hd : 0 < d) (h : d * r * 4 ≤ d * d * 4) : r ≤ d :=
  Int.le_of_mul_le_mul_left (show d * r ≤ d * d by omega) hd
theorem ri_le {x y : H} (hx : par x) (hy : par y) (h : 0 < nn y) : nn (ri x y) ≤ nn y := by
  have e := left_over (x := x) hy (par_qi (P y.conj x) (nn y))
  refine le_of_left h ?_
  unfold ri; rw [e]
  have r := fun c => round_i c h
  refine nn_le ?_ ?_ ?_ ?_
  · have := r (P y.conj x).w; exact ⟨this.1, Int.le_of_lt this.2⟩
  · have := r (P y.conj x).x; exact ⟨this.1, Int.le_of_lt this.2⟩
  · have := r (P y.conj x).y; exact ⟨this.1, Int.le_of_lt this.2⟩
  · have := r (P y.conj x).z; exact ⟨this.1, Int.le_of_lt this.2⟩
theorem rh_le {x y : H} (hx : par x) (hy : par y) (h : 0 < nn y) : nn (rh x y) ≤ nn y := by
  have e := left_over (x := x) hy (par_qh (P y.conj x) (nn y))
  refine le_of_left h ?_
  unfold rh; rw [e]
  have r := fun c => round_h c h
  refine nn_le ?_ ?_ ?_ ?_
  · have := r (P y.conj x).w; exact ⟨this.1, Int.le_of_lt this.2⟩
  · have := r (P y.conj x).x; exact ⟨this.1, Int.le_of_lt this.2⟩
  · have := r (P y.conj x).y; exact ⟨this.1, Int.le_of_lt this.2⟩
  · have := r (P y.conj x).z; exact ⟨this.1, Int.le_of_lt this.2⟩
theorem sq_eq {d u : Int} (h1 : -d ≤ u) (h2 : u < d) (h : d * d ≤ u * u) : u = -d := by
  have h3 := Int.mul_nonneg (show 0 ≤ d - u - 1 by omega) (show 0 ≤ d + u by omega)
  have h4 : (d - u - 1) * (d + u) = d * d - u * u - (d + u) := by grind
  omega
/-- the remainder has a lesser norm -/
theorem rem_lt {x y : H} (hx : par x) (hy : par y) (h : 0 < nn y) : N (rem x y) < N y := by
  have n1 := nn_par (par_rh hx hy)
  have n2 := nn_par (par_ri hx hy)
  have n3 := nn_par hy
  have l1 := rh_le hx hy h
  have l2 := ri_le hx hy h
  unfold rem
  split
  · omega
  · rename_i hlt
    rcases Int.lt_or_le (N (ri x y)) (N y) with h1 | h1
    · exact h1
    · exfalso
      have e2 : nn (ri x y) = nn y := by omega
      have e := left_over (x := x) hy (par_qi (P y.conj x) (nn y))
      have e' := left_over (x := x) hy (par_qh (P y.conj x) (nn y))
      have e3 : nn y * nn y * 4 = nn (((P y.conj x).sc 2).sub ((qi (P y.conj x) (nn y)).sc (nn y))) := by
        rw [← e]; show _ = nn y * nn (ri x y) * 4; rw [e2]
      have r := fun c => round_i c h
      have r0 := r (P y.conj x).w; have r1 := r (P y.conj x).x; have r2 := r (P y.conj x).y; have r3 := r (P y.conj x).z
      have s0 := sq_bd r0.1 (Int.le_of_lt r0.2); have s1 := sq_bd r1.1 (Int.le_of_lt r1.2); have s2 := sq_bd r2.1 (Int.le_of_lt r2.2); have s3 := sq_bd r3.1 (Int.le_of_lt r3.2)
      have e4 : nn y * nn y * 4 = ((P y.conj x).w * 2 - (2 * ((2 * (P y.conj x).w + nn y) / (2 * nn y))) * nn y) * ((P y.conj x).w * 2 - (2 * ((2 * (P y.conj x).w + nn y) / (2 * nn y))) * nn y) + ((P y.conj x).x * 2 - (2 * ((2 * (P y.conj x).x + nn y) / (2 * nn y))) * nn y) * ((P y.conj x).x * 2 - (2 * ((2 * (P y.conj x).x + nn y) / (2 * nn y))) * nn y) + ((P y.conj x).y * 2 - (2 * ((2 * (P y.conj x).y + nn y) / (2 * nn y))) * nn y) * ((P y.conj x).y * 2 - (2 * ((2 * (P y.conj x).y + nn y) / (2 * nn y))) * nn y) + ((P y.conj x).z * 2 - (2 * ((2 * (P y.conj x).z + nn y) / (2 * nn y))) * nn y) * ((P y.conj x).z * 2 - (2 * ((2 * (P y.conj x).z + nn y) / (2 * nn y))) * nn y) := e3
      have t0 := round_both (P y.conj x).w h (sq_eq r0.1 r0.2 (by omega))
      have t1 := round_both (P y.conj x).x h (sq_eq r1.1 r1.2 (by omega))
      have t2 := round_both (P y.conj x).y h (sq_eq r2.1 r2.2 (by omega))
      have t3 := round_both (P y.conj x).z h (sq_eq r3.1 r3.2 (by omega))
      have e5 : ((P y.conj x).sc 2).sub ((qh (P y.conj x) (nn y)).sc (nn y)) = H.zero := H.ext' t0 t1 t2 t3
      rw [e5] at e'
      have e6 : nn y * nn (rh x y) * 4 = 0 := e'
      have e7 : nn (rh x y) = 0 := by
        rcases Int.mul_eq_zero.1 (show nn y * nn (rh x y) = 0 by omega) with h2 | h2
        · omega
        · exact h2
      omega
theorem rem_eq {x y : H} : x.sub (by_ y (quo x y)) = rem x y := by
  unfold quo rem; split <;> rfl
/-- the order of two numbers; the first of four that is not 0; the order of two quaternions -/
def cmpI (a b : Int) : Int := if a < b then -1 else if b < a then 1 else 0
def or4 (a b c d : Int) : Int := if a = 0 then if b = 0 then if c = 0 then d else c else b else a
def cmpH (a b : H) : Int := or4 (cmpI a.w b.w) (cmpI a.x b.x) (cmpI a.y b.y) (cmpI a.z b.z)
theorem or4_ways (a b c d : Int) : a ≠ 0 ∨ (a = 0 ∧ b ≠ 0) ∨ (a = 0 ∧ b = 0 ∧ c ≠ 0) ∨ (a = 0 ∧ b = 0 ∧ c = 0 ∧ d ≠ 0) ∨ (a = 0 ∧ b = 0 ∧ c = 0 ∧ d = 0) := by omega
/-- all four numbers are at most n in size -/
abbrev HB (n : Nat) (a : H) : Prop := (-(n : Int) ≤ a.w ∧ a.w ≤ n) ∧ (-(n : Int) ≤ a.x ∧ a.x ≤ n) ∧ (-(n : Int) ≤ a.y ∧ a.y ≤ n) ∧ (-(n : Int) ≤ a.z ∧ a.z ≤ n)
def zeroB (a : H) : Bool := a.w == 0 && (a.x == 0 && (a.y == 0 && a.z == 0))
theorem zeroB_iff {a : H} : zeroB a = true ↔ a = H.zero := by
  unfold zeroB
  simp only [Bool.and_eq_true, beq_iff_eq]
  constructor
  · rintro ⟨h1, h2, h3, h4⟩; exact H.ext' h1 h2 h3 h4
  · rintro rfl; exact ⟨rfl, rfl, rfl, rfl⟩
end Go.Proofs.Yteiflfmpkfhkoaa.Hwm
