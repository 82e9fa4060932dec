/-
  Chinese remainders: plain mathematics.
-/
import Derived.Test.YtcbdnnboddahkaaNt
namespace Go.Proofs.Ytcbdnnboddahkaa.Cn
set_option linter.unusedVariables false
/-- the greatest common divisor as an integer -/
def gz (a b : Int) : Int := (Int.gcd a b : Int)
theorem gz_pos {a b : Int} (h : 1 ≤ b) : 1 ≤ gz a b := by
  unfold gz
  have : 0 < Int.gcd a b := Int.gcd_pos_of_ne_zero_right a (by omega)
  omega
theorem gz_left (a b : Int) : gz a b ∣ a := Int.gcd_dvd_left a b
theorem gz_right (a b : Int) : gz a b ∣ b := Int.gcd_dvd_right a b
theorem gz_comm (a b : Int) : gz a b = gz b a := by unfold gz; rw [Int.gcd_comm]
theorem dvd_gz {d a b : Int} (h1 : d ∣ a) (h2 : d ∣ b) : d ∣ gz a b := Int.dvd_coe_gcd h1 h2
theorem q_pos {M m : Int} (h : 1 ≤ m) : 1 ≤ m / gz M m := by
  obtain ⟨c, hc⟩ := gz_right M m
  have hg := gz_pos (a := M) h
  have e : m / gz M m = c := Int.ediv_eq_of_eq_mul_right (by omega) hc
  rw [e]
  rcases Int.lt_or_le c 1 with h1 | h1
  · have : gz M m * c ≤ 0 := Int.mul_nonpos_of_nonneg_of_nonpos (by omega) (by omega)
    omega
  · exact h1
/-- the step from a residue R modulo M to one that is r modulo m as well -/
def JS (R M r m s : Int) : Prop := 0 ≤ s ∧ s < m / gz M m ∧ ∃ x, (m / gz M m) ∣ (M / gz M m) * x - 1 ∧ s = (((r % m - R).tdiv (gz M m) % (m / gz M m)) * x) % (m / gz M m)
theorem JS.unique {R M r m s t : Int} (h : JS R M r m s) (k : JS R M r m t) : s = t := by
  obtain ⟨-, -, x, hx, e1⟩ := h
  obtain ⟨-, -, y, hy, e2⟩ := k
  generalize m / gz M m = q at *
  generalize M / gz M m = a at *
  generalize (r % m - R).tdiv (gz M m) % q = d at *
  rw [e1, e2]
  have h1 : q ∣ x - y := by
    have h2 := Int.dvd_sub (Int.dvd_mul_of_dvd_right (b := y) hx) (Int.dvd_mul_of_dvd_right (b := x) hy)
    have e : y * (a * x - 1) - x * (a * y - 1) = x - y := by grind
    rw [e] at h2; exact h2
  apply Int.emod_eq_emod_iff_emod_sub_eq_zero.2
  apply Int.emod_eq_zero_of_dvd
  rw [← Int.mul_sub]
  exact Int.dvd_mul_of_dvd_right h1
theorem JS.mod {R M r m s : Int} (hm : 1 ≤ m) (h : JS R M r m s) (hc : gz M m ∣ R - r) : m ∣ R + M * s - r := by
  obtain ⟨-, -, x, hx, e⟩ := h
  have hg := gz_pos (a := M) hm
  obtain ⟨a, ha⟩ := gz_left M m
  obtain ⟨q, hq⟩ := gz_right M m
  obtain ⟨c, hcc⟩ := hc
  have eq1 : m / gz M m = q := Int.ediv_eq_of_eq_mul_right (by omega) hq
  have ea1 : M / gz M m = a := Int.ediv_eq_of_eq_mul_right (by omega) ha
  rw [eq1, ea1] at hx
  rw [eq1] at e
  generalize gz M m = g at *
  have hr : r % m = r - m * (r / m) := by have := Int.mul_ediv_add_emod r m; omega
  obtain ⟨d, hd⟩ : ∃ d, r % m - R = g * d := ⟨-(q * (r / m)) - c, by
    have e3 : g * (-(q * (r / m)) - c) = -(g * q * (r / m)) - g * c := by grind
    rw [e3, ← hq, ← hcc, hr]; omega⟩
  have et : (r % m - R).tdiv g = d := by rw [hd]; exact Int.mul_tdiv_cancel_left d (by omega)
  rw [et] at e
  obtain ⟨u, hu⟩ := hx
  have hs : ∃ v, s = d * x + q * v := by
    have h1 := Int.mul_ediv_add_emod (d % q * x) q
    have h2 := Int.mul_ediv_add_emod d q
    refine ⟨-(d / q * x) - (d % q * x) / q, ?_⟩
    have e4 : d % q * x = d * x - q * (d / q) * x := by
      have : d % q = d - q * (d / q) := by omega
      rw [this]; grind
    rw [e]
    have e5 : d % q * x % q = d % q * x - q * (d % q * x / q) := by omega
    rw [e5]
    generalize d % q * x / q = z at *
    rw [e4]; grind
  obtain ⟨v, hv⟩ := hs
  -- R + M s - r = m * (..)
  refine ⟨-(r / m) + d * u + a * v, ?_⟩
  have e6 : R = r % m - g * d := by omega
  have e7 : a * x = q * u + 1 := by omega
  have e8 : M * s = g * d * (a * x) + g * q * (a * v) := by rw [ha, hv]; grind
  rw [e8, e7, e6, hr, hq]
  grind
theorem big_le {M m : Int} (hM : 1 ≤ M) (hm : 1 ≤ m) : M * (m / gz M m) = M / gz M m * m := by
  have hg := gz_pos (a := M) hm
  obtain ⟨a, ha⟩ := gz_left M m
  obtain ⟨q, hq⟩ := gz_right M m
  have eq1 : m / gz M m = q := Int.ediv_eq_of_eq_mul_right (by omega) hq
  have ea1 : M / gz M m = a := Int.ediv_eq_of_eq_mul_right (by omega) ha
  rw [eq1, ea1]
  generalize gz M m = g at *
  rw [ha, hq]; grind
/-- residues joined, the first k of them -/
inductive Jn (ps : List (Int × Int)) : Nat → Int → Int → Prop
  | zero : Jn ps 0 0 1
  | step {k : Nat} {R M r m s : Int} : Jn ps k R M → k < ps.length → ps.getD k (0, 0) = (r, m) → JS R M r m s → M * (m / gz M m) ≤ 1000000000 → Jn ps (k + 1) (R + M * s) (M * (m / gz M m))
theorem Jn.unique {ps : List (Int × Int)} {k : Nat} : ∀ {R M R' M' : Int}, Jn ps k R M → Jn ps k R' M' → R = R' ∧ M = M' := by
  induction k with
  | zero => intro R M R' M' h h'; cases h; cases h'; exact ⟨rfl, rfl⟩
  | succ k ih =>
    intro R M R' M' h h'
    cases h with
    | step a b c d e =>
      cases h' with
      | step a' b' c' d' e' =>
        rw [c] at c'
        injection c' with c1 c2
        subst c1 c2
        obtain ⟨rfl, rfl⟩ := ih a a'
        rw [d.unique d']
        exact ⟨rfl, rfl⟩
theorem Jn.pre {ps : List (Int × Int)} {n : Nat} : ∀ {R M : Int}, Jn ps n R M → ∀ k, k < n → ∃ R' M', Jn ps k R' M' ∧ M' * ((ps.getD k (0, 0)).2 / gz M' (ps.getD k (0, 0)).2) ≤ 1000000000 := by
  induction n with
  | zero => intro R M h k hk; omega
  | succ n ih =>
    intro R M h k hk
    cases h with
    | step a b c d e =>
      rcases Nat.lt_or_ge k n with h1 | h1
      · exact ih a k h1
      · have : k = n := by omega
        subst this
        exact ⟨_, _, a, by rw [c]; exact e⟩
def modP (m : Int) : Prop := 1 ≤ m ∧ m ≤ 1000000000
theorem Jn.bd {ps : List (Int × Int)} (hb : ∀ j, j < ps.length → modP (ps.getD j (0, 0)).2) {k : Nat} : ∀ {R M : Int}, Jn ps k R M → 0 ≤ R ∧ R < M ∧ 1 ≤ M ∧ M ≤ 1000000000 := by
  induction k with
  | zero => intro R M h; cases h; omega
  | succ k ih =>
    intro R M h
    cases h with
    | step a b c d e =>
      obtain ⟨i1, i2, i3, i4⟩ := ih a
      rename_i R M r m s
      have hm := hb k b
      rw [c] at hm
      have hq := q_pos (M := M) hm.1
      obtain ⟨d1, d2, -⟩ := d
      generalize m / gz M m = q at *
      have h1 : 0 ≤ M * s := Int.mul_nonneg (by omega) d1
      have h2 : M * s ≤ M * (q - 1) := Int.mul_le_mul_of_nonneg_left (by omega) (by omega)
      rw [Int.mul_sub, Int.mul_one] at h2
      omega
/-- two residues contradict each other -/
def clP (p q : Int × Int) : Prop := p.1 % gz p.2 q.2 ≠ q.1 % gz p.2 q.2
theorem clP_symm {p q : Int × Int} (h : clP p q) : clP q p := by
  unfold clP at *; rw [gz_comm]; exact fun e => h e.symm
theorem ncl {p q : Int × Int} (h : ¬ clP p q) : gz p.2 q.2 ∣ p.1 - q.1 := by
  unfold clP at h
  rw [Classical.not_not] at h
  exact Int.dvd_of_emod_eq_zero (Int.emod_eq_emod_iff_emod_sub_eq_zero.1 h)
theorem gz_join {A B c d : Int} (hB : 1 ≤ B) (h1 : gz A c ∣ d) (h2 : gz B c ∣ d) : gz (A * (B / gz A B)) c ∣ d := by
  have hg := gz_pos (a := A) hB
  obtain ⟨a, ha⟩ := gz_left A B
  obtain ⟨b, hb⟩ := gz_right A B
  have eb : B / gz A B = b := Int.ediv_eq_of_eq_mul_right (by omega) hb
  rw [eb]
  have hab : Int.gcd a b = 1 := by
    have e1 : Int.gcd (gz A B * a) (gz A B * b) = (gz A B).natAbs * Int.gcd a b := Int.gcd_mul_left _ _ _
    rw [← ha, ← hb] at e1
    have e2 : (gz A B).natAbs = Int.gcd A B := by unfold gz; simp
    rw [e2] at e1
    have e3 : 0 < Int.gcd A B := by unfold gz at hg; omega
    exact Nat.eq_of_mul_eq_mul_left e3 (by omega)
  obtain ⟨D, hD⟩ : ∃ D, gz (A * b) c = D := ⟨_, rfl⟩
  have hDL : D ∣ A * b := hD ▸ gz_left _ _
  have hDc : D ∣ c := hD ▸ gz_right _ _
  rw [hD]
  -- D divides d b and d a
  have k1 : D ∣ d * b := by
    have h3 : D ∣ gz A c * b := by
      have h4 : D ∣ gz (A * b) (c * b) := dvd_gz hDL (Int.dvd_mul_of_dvd_left hDc)
      have e : gz (A * b) (c * b) = gz A c * b.natAbs := by unfold gz; rw [Int.gcd_mul_right]; simp
      rw [e] at h4
      exact Int.dvd_trans h4 (Int.mul_dvd_mul (Int.dvd_refl _) (Int.natAbs_dvd.2 (Int.dvd_refl _)))
    exact Int.dvd_trans h3 (Int.mul_dvd_mul h1 (Int.dvd_refl _))
  have hDB : D ∣ B * a := by
    have e1 : B * a = gz A B * b * a := by rw [← hb]
    have e2 : A * b = gz A B * a * b := by rw [← ha]
    have e : B * a = A * b := by rw [e1, e2]; grind
    rw [e]; exact hDL
  have k2 : D ∣ d * a := by
    have h3 : D ∣ gz B c * a := by
      have h4 : D ∣ gz (B * a) (c * a) := dvd_gz hDB (Int.dvd_mul_of_dvd_left hDc)
      have e : gz (B * a) (c * a) = gz B c * a.natAbs := by unfold gz; rw [Int.gcd_mul_right]; simp
      rw [e] at h4
      exact Int.dvd_trans h4 (Int.mul_dvd_mul (Int.dvd_refl _) (Int.natAbs_dvd.2 (Int.dvd_refl _)))
    exact Int.dvd_trans h3 (Int.mul_dvd_mul h2 (Int.dvd_refl _))
  have h5 := dvd_gz k2 k1
  have e : gz (d * a) (d * b) = (d.natAbs : Int) := by unfold gz; rw [Int.gcd_mul_left, hab]; simp
  rw [e] at h5
  exact Int.dvd_natAbs.1 h5
theorem Jn.inv {ps : List (Int × Int)} (hb : ∀ j, j < ps.length → modP (ps.getD j (0, 0)).2) (hc : ∀ i j, j < i → i < ps.length → ¬ clP (ps.getD i (0, 0)) (ps.getD j (0, 0))) {k : Nat} :
    ∀ {R M : Int}, Jn ps k R M → (∀ j, j < k → (ps.getD j (0, 0)).2 ∣ M ∧ (ps.getD j (0, 0)).2 ∣ R - (ps.getD j (0, 0)).1) ∧ (∀ c d, (∀ j, j < k → gz (ps.getD j (0, 0)).2 c ∣ d) → gz M c ∣ d) := by
  induction k with
  | zero =>
    intro R M h
    cases h
    exact ⟨fun j hj => by omega, fun c d _ => by unfold gz; simp⟩
  | succ k ih =>
    intro R M h
    cases h with
    | step a b c d e =>
      rename_i R M r m s
      obtain ⟨i1, i2⟩ := ih a
      have hm := hb k b
      have hck := fun j (hj : j < k) => ncl (hc k j hj b)
      rw [c] at hm hck
      have hg : gz M m ∣ R - r := i2 m (R - r) fun j hj => by
        have h1 := (i1 j hj).2
        have h2 := hck j hj
        have h3 : gz (ps.getD j (0, 0)).2 m ∣ R - (ps.getD j (0, 0)).1 := Int.dvd_trans (gz_left _ _) h1
        have h4 : gz (ps.getD j (0, 0)).2 m ∣ r - (ps.getD j (0, 0)).1 := by rw [gz_comm]; exact h2
        have h5 := Int.dvd_sub h3 h4
        have e : R - (ps.getD j (0, 0)).1 - (r - (ps.getD j (0, 0)).1) = R - r := by omega
        rw [e] at h5; exact h5
      have hmod := d.mod hm.1 hg
      have hmd : m ∣ M * (m / gz M m) := by
        rw [big_le (Jn.bd hb a).2.2.1 hm.1]; exact Int.dvd_mul_left _ _
      refine ⟨fun j hj => ?_, fun c' d' hd => ?_⟩
      · rcases Nat.lt_or_ge j k with h1 | h1
        · obtain ⟨g1, g2⟩ := i1 j h1
          refine ⟨Int.dvd_mul_of_dvd_left g1, ?_⟩
          have h2 := Int.dvd_add g2 (Int.dvd_mul_of_dvd_left (c := s) g1)
          have e : R - (ps.getD j (0, 0)).1 + M * s = R + M * s - (ps.getD j (0, 0)).1 := by omega
          rw [e] at h2; exact h2
        · have : j = k := by omega
          subst this
          rw [c]
          exact ⟨hmd, hmod⟩
      · refine gz_join hm.1 (i2 c' d' fun j hj => hd j (by omega)) ?_
        have := hd k (by omega)
        rw [c] at this
        exact this
/-- what the residues of a list give: an error, or a residue -/
def bad (ps : List (Int × Int)) : Prop := ∃ j, j < ps.length ∧ ¬ modP (ps.getD j (0, 0)).2
def clash (ps : List (Int × Int)) : Prop := ∃ i j, j < i ∧ i < ps.length ∧ clP (ps.getD i (0, 0)) (ps.getD j (0, 0))
def CO (ps : List (Int × Int)) (R M e : Int) : Prop :=
  (20 < ps.length ∧ e = 8 ∧ R = 0 ∧ M = 0) ∨
  (¬ 20 < ps.length ∧ ((bad ps ∧ e = 2 ∧ R = 0 ∧ M = 0) ∨
  (¬ bad ps ∧ ((clash ps ∧ e = 12 ∧ R = 0 ∧ M = 0) ∨
  (¬ clash ps ∧ ((∃ k R' M', k < ps.length ∧ Jn ps k R' M' ∧ 1000000000 < M' * ((ps.getD k (0, 0)).2 / gz M' (ps.getD k (0, 0)).2) ∧ e = 8 ∧ R = 0 ∧ M = 0) ∨
  (Jn ps ps.length R M ∧ e = 0)))))))
theorem CO.unique {ps : List (Int × Int)} {R M e R' M' e' : Int} (h : CO ps R M e) (h' : CO ps R' M' e') : R = R' ∧ M = M' ∧ e = e' := by
  rcases h with ⟨a, rfl, rfl, rfl⟩ | ⟨a, h⟩
  · rcases h' with ⟨a', rfl, rfl, rfl⟩ | ⟨a', h'⟩
    · exact ⟨rfl, rfl, rfl⟩
    · exact absurd a a'
  · rcases h' with ⟨a', -⟩ | ⟨a', h'⟩
    · exact absurd a' a
    rcases h with ⟨b, rfl, rfl, rfl⟩ | ⟨b, h⟩
    · rcases h' with ⟨b', rfl, rfl, rfl⟩ | ⟨b', h'⟩
      · exact ⟨rfl, rfl, rfl⟩
      · exact absurd b b'
    · rcases h' with ⟨b', -⟩ | ⟨b', h'⟩
      · exact absurd b' b
      rcases h with ⟨c, rfl, rfl, rfl⟩ | ⟨c, h⟩
      · rcases h' with ⟨c', rfl, rfl, rfl⟩ | ⟨c', h'⟩
        · exact ⟨rfl, rfl, rfl⟩
        · exact absurd c c'
      · rcases h' with ⟨c', -⟩ | ⟨c', h'⟩
        · exact absurd c' c
        rcases h with ⟨k, R1, M1, hk, hj, hl, rfl, rfl, rfl⟩ | ⟨hj, rfl⟩
        · rcases h' with ⟨k', R2, M2, hk', hj', hl', rfl, rfl, rfl⟩ | ⟨hj', rfl⟩
          · exact ⟨rfl, rfl, rfl⟩
          · obtain ⟨R3, M3, h3, h4⟩ := hj'.pre k hk
            obtain ⟨rfl, rfl⟩ := hj.unique h3
            omega
        · rcases h' with ⟨k', R2, M2, hk', hj', hl', rfl, rfl, rfl⟩ | ⟨hj', rfl⟩
          · obtain ⟨R3, M3, h3, h4⟩ := hj.pre k' hk'
            obtain ⟨rfl, rfl⟩ := hj'.unique h3
            omega
          · obtain ⟨rfl, rfl⟩ := hj.unique hj'
            exact ⟨rfl, rfl, rfl⟩
/-- what the law asks of the residue -/
theorem CO.law {ps : List (Int × Int)} {R M : Int} (h : CO ps R M 0) : ∀ j, j < ps.length → modP (ps.getD j (0, 0)).2 ∧ (ps.getD j (0, 0)).2 ∣ M ∧ R % (ps.getD j (0, 0)).2 = (ps.getD j (0, 0)).1 % (ps.getD j (0, 0)).2 := by
  rcases h with ⟨a, e, -, -⟩ | ⟨a, h⟩
  · omega
  rcases h with ⟨b, e, -, -⟩ | ⟨b, h⟩
  · omega
  rcases h with ⟨c, e, -, -⟩ | ⟨c, h⟩
  · omega
  rcases h with ⟨k, R1, M1, hk, hj, hl, e, -, -⟩ | ⟨hj, -⟩
  · omega
  have hb : ∀ j, j < ps.length → modP (ps.getD j (0, 0)).2 := fun j hj => Classical.byContradiction fun h => b ⟨j, hj, h⟩
  have hc : ∀ i j, j < i → i < ps.length → ¬ clP (ps.getD i (0, 0)) (ps.getD j (0, 0)) := fun i j h1 h2 h3 => c ⟨i, j, h1, h2, h3⟩
  intro j hjl
  obtain ⟨h1, h2⟩ := (hj.inv hb hc).1 j hjl
  exact ⟨hb j hjl, h1, Int.emod_eq_emod_iff_emod_sub_eq_zero.2 (Int.emod_eq_zero_of_dvd h2)⟩
theorem CO.bd {ps : List (Int × Int)} {R M : Int} (h : CO ps R M 0) : 0 ≤ R ∧ R < M ∧ 1 ≤ M ∧ M ≤ 1000000000 := by
  have hl := h.law
  rcases h with ⟨a, e, -, -⟩ | ⟨a, h⟩
  · omega
  rcases h with ⟨b, e, -, -⟩ | ⟨b, h⟩
  · omega
  rcases h with ⟨c, e, -, -⟩ | ⟨c, h⟩
  · omega
  rcases h with ⟨k, R1, M1, hk, hj, hl, e, -, -⟩ | ⟨hj, -⟩
  · omega
  exact hj.bd fun j hj => (hl j hj).1
end Go.Proofs.Ytcbdnnboddahkaa.Cn
