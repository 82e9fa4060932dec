/-
  Plain mathematics of elements of quaternion algebras over the integers: signed common divisors, lowest terms, bounds of products.
-/
namespace Go.Proofs.Yteiflfmpkfhkoaa.Alm
theorem mb (A B : Nat) {a b : Int} (h : -(A : Int) ≤ a ∧ a ≤ A) (k : -(B : Int) ≤ b ∧ b ≤ B) : -((A * B : Nat) : Int) ≤ a * b ∧ a * b ≤ ((A * B : Nat) : Int) := by
  have : (a * b).natAbs ≤ A * B := by rw [Int.natAbs_mul]; exact Nat.mul_le_mul (by omega) (by omega)
  omega
/-- the common divisor of a list -/
def cdl (l : List Int) : Nat := l.foldl (fun a n => Nat.gcd a n.natAbs) 0
theorem cdl_snoc (l : List Int) (n : Int) : cdl (l ++ [n]) = Nat.gcd (cdl l) n.natAbs := by
  simp [cdl, List.foldl_append]
/-- the common divisor of five numbers, with the sign of the last -/
def g5 (w x y z d : Int) : Nat := Nat.gcd (Nat.gcd (Nat.gcd w.natAbs x.natAbs) (Nat.gcd y.natAbs z.natAbs)) d.natAbs
def sgn (d : Int) (g : Nat) : Int := if d < 0 then -(g : Int) else g
def gs (w x y z d : Int) : Int := sgn d (g5 w x y z d)
theorem cdl5 (w x y z d : Int) : cdl [d, w, x, y, z] = g5 w x y z d := by
  simp only [cdl, g5, List.foldl_cons, List.foldl_nil, Nat.gcd_zero_left]
  apply Nat.dvd_antisymm <;> simp only [Nat.dvd_gcd_iff]
  · have h1 := Nat.gcd_dvd_right (Nat.gcd (Nat.gcd (Nat.gcd d.natAbs w.natAbs) x.natAbs) y.natAbs) z.natAbs
    have h0 := Nat.gcd_dvd_left (Nat.gcd (Nat.gcd (Nat.gcd d.natAbs w.natAbs) x.natAbs) y.natAbs) z.natAbs
    have h2 := Nat.dvd_trans h0 (Nat.gcd_dvd_right _ _)
    have h3 := Nat.dvd_trans h0 (Nat.gcd_dvd_left _ _)
    have h4 := Nat.dvd_trans h3 (Nat.gcd_dvd_right _ _)
    have h5 := Nat.dvd_trans h3 (Nat.gcd_dvd_left _ _)
    exact ⟨⟨⟨Nat.dvd_trans h5 (Nat.gcd_dvd_right _ _), h4⟩, h2, h1⟩, Nat.dvd_trans h5 (Nat.gcd_dvd_left _ _)⟩
  · have a := Nat.gcd_dvd_left (Nat.gcd (Nat.gcd w.natAbs x.natAbs) (Nat.gcd y.natAbs z.natAbs)) d.natAbs
    have b := Nat.gcd_dvd_right (Nat.gcd (Nat.gcd w.natAbs x.natAbs) (Nat.gcd y.natAbs z.natAbs)) d.natAbs
    have c := Nat.dvd_trans a (Nat.gcd_dvd_left _ _)
    have e := Nat.dvd_trans a (Nat.gcd_dvd_right _ _)
    exact ⟨⟨⟨⟨b, Nat.dvd_trans c (Nat.gcd_dvd_left _ _)⟩, Nat.dvd_trans c (Nat.gcd_dvd_right _ _)⟩, Nat.dvd_trans e (Nat.gcd_dvd_left _ _)⟩, Nat.dvd_trans e (Nat.gcd_dvd_right _ _)⟩
theorem cdl2 (a b : Int) : cdl [a, b] = Int.gcd a b := by
  simp [cdl, Int.gcd]
theorem g5_pos {w x y z d : Int} (hd : d ≠ 0) : 0 < g5 w x y z d := Nat.gcd_pos_of_pos_right _ (by omega)
theorem g5_le {w x y z d : Int} (hd : d ≠ 0) : g5 w x y z d ≤ d.natAbs := Nat.le_of_dvd (by omega) (Nat.gcd_dvd_right _ _)
theorem gs_ne {w x y z d : Int} (hd : d ≠ 0) : gs w x y z d ≠ 0 := by
  have := g5_pos (w := w) (x := x) (y := y) (z := z) hd
  unfold gs sgn; split <;> omega
theorem gs_bd {w x y z d : Int} (hd : d ≠ 0) : -(d.natAbs : Int) ≤ gs w x y z d ∧ gs w x y z d ≤ d.natAbs := by
  have := g5_le (w := w) (x := x) (y := y) (z := z) hd
  unfold gs sgn; split <;> omega
theorem tdiv_bd (a g : Int) : -(a.natAbs : Int) ≤ a.tdiv g ∧ a.tdiv g ≤ a.natAbs := by
  have : (a.tdiv g).natAbs ≤ a.natAbs := by rw [Int.natAbs_tdiv]; exact Nat.div_le_self _ _
  omega
theorem g5_dvd (w x y z d : Int) : (g5 w x y z d : Int) ∣ w ∧ (g5 w x y z d : Int) ∣ x ∧ (g5 w x y z d : Int) ∣ y ∧ (g5 w x y z d : Int) ∣ z ∧ (g5 w x y z d : Int) ∣ d := by
  have a := Nat.gcd_dvd_left (Nat.gcd (Nat.gcd w.natAbs x.natAbs) (Nat.gcd y.natAbs z.natAbs)) d.natAbs
  have b := Nat.gcd_dvd_right (Nat.gcd (Nat.gcd w.natAbs x.natAbs) (Nat.gcd y.natAbs z.natAbs)) d.natAbs
  have c := Nat.dvd_trans a (Nat.gcd_dvd_left _ _)
  have e := Nat.dvd_trans a (Nat.gcd_dvd_right _ _)
  unfold g5
  exact ⟨Int.ofNat_dvd_left.2 (Nat.dvd_trans c (Nat.gcd_dvd_left _ _)), Int.ofNat_dvd_left.2 (Nat.dvd_trans c (Nat.gcd_dvd_right _ _)), Int.ofNat_dvd_left.2 (Nat.dvd_trans e (Nat.gcd_dvd_left _ _)), Int.ofNat_dvd_left.2 (Nat.dvd_trans e (Nat.gcd_dvd_right _ _)), Int.ofNat_dvd_left.2 b⟩
theorem gs_dvd (w x y z d : Int) : gs w x y z d ∣ w ∧ gs w x y z d ∣ x ∧ gs w x y z d ∣ y ∧ gs w x y z d ∣ z ∧ gs w x y z d ∣ d := by
  obtain ⟨a, b, c, e, f⟩ := g5_dvd w x y z d
  unfold gs sgn
  split
  · exact ⟨Int.neg_dvd.2 a, Int.neg_dvd.2 b, Int.neg_dvd.2 c, Int.neg_dvd.2 e, Int.neg_dvd.2 f⟩
  · exact ⟨a, b, c, e, f⟩
/-- an element: four numerators and a denominator -/
structure Q where
  w : Int
  x : Int
  y : Int
  z : Int
  d : Int
/-- in lowest terms, the denominator positive -/
def Q.low (q : Q) : Q :=
  ⟨q.w.tdiv (gs q.w q.x q.y q.z q.d), q.x.tdiv (gs q.w q.x q.y q.z q.d), q.y.tdiv (gs q.w q.x q.y q.z q.d), q.z.tdiv (gs q.w q.x q.y q.z q.d), q.d.tdiv (gs q.w q.x q.y q.z q.d)⟩
def Q.mulc (q : Q) (c : Int) : Q := ⟨q.w * c, q.x * c, q.y * c, q.z * c, q.d * c⟩
theorem g5_mulc (w x y z d c : Int) : g5 (w * c) (x * c) (y * c) (z * c) (d * c) = g5 w x y z d * c.natAbs := by
  unfold g5; simp only [Int.natAbs_mul, Nat.gcd_mul_right]
theorem gs_mulc (w x y z d : Int) {c : Int} (hc : 0 < c) : gs (w * c) (x * c) (y * c) (z * c) (d * c) = gs w x y z d * c := by
  unfold gs sgn
  rw [g5_mulc]
  have e : ((g5 w x y z d * c.natAbs : Nat) : Int) = (g5 w x y z d : Int) * c := by rw [Int.natCast_mul]; congr 1; omega
  rw [e]
  by_cases h : d < 0
  · rw [if_pos h, if_pos (Int.mul_neg_of_neg_of_pos h hc), Int.neg_mul]
  · rw [if_neg h, if_neg (Int.not_lt.2 (Int.mul_nonneg (by omega) (by omega)))]
theorem tdiv_mulc {a g c : Int} (h : g ∣ a) (hg : g ≠ 0) (hc : c ≠ 0) : (a * c).tdiv (g * c) = a.tdiv g := by
  obtain ⟨k, rfl⟩ := h
  rw [Int.mul_tdiv_cancel_left _ hg]
  have e : g * k * c = (g * c) * k := by rw [Int.mul_right_comm]
  rw [e, Int.mul_tdiv_cancel_left _ (Int.mul_ne_zero hg hc)]
theorem Q.low_mulc (q : Q) (hd : q.d ≠ 0) {c : Int} (hc : 0 < c) : (q.mulc c).low = q.low := by
  have hg := gs_ne (w := q.w) (x := q.x) (y := q.y) (z := q.z) hd
  obtain ⟨a, b, e, f, h⟩ := gs_dvd q.w q.x q.y q.z q.d
  have hc' : c ≠ 0 := by omega
  unfold Q.low Q.mulc
  simp only [gs_mulc _ _ _ _ _ hc, tdiv_mulc a hg hc', tdiv_mulc b hg hc', tdiv_mulc e hg hc', tdiv_mulc f hg hc', tdiv_mulc h hg hc']
theorem Q.eta (q : Q) : ∃ c : Int, 0 < c ∧ (q.d < 0 ∨ (0 < q.d → q = q.low.mulc c)) := by
  by_cases hd : q.d ≤ 0
  · exact ⟨1, by omega, .inr fun h => by omega⟩
  · refine ⟨gs q.w q.x q.y q.z q.d, ?_, .inr fun _ => ?_⟩
    · have := g5_pos (w := q.w) (x := q.x) (y := q.y) (z := q.z) (d := q.d) (by omega)
      unfold gs sgn; rw [if_neg (by omega)]; omega
    · obtain ⟨a, b, e, f, h⟩ := gs_dvd q.w q.x q.y q.z q.d
      unfold Q.low Q.mulc
      simp only [Int.tdiv_mul_cancel a, Int.tdiv_mul_cancel b, Int.tdiv_mul_cancel e, Int.tdiv_mul_cancel f, Int.tdiv_mul_cancel h]
theorem Q.low_pos (q : Q) (hd : q.d ≠ 0) : 0 < q.low.d := by
  obtain ⟨k, hk⟩ := (gs_dvd q.w q.x q.y q.z q.d).2.2.2.2
  have hg := gs_ne (w := q.w) (x := q.x) (y := q.y) (z := q.z) hd
  have hp := g5_pos (w := q.w) (x := q.x) (y := q.y) (z := q.z) hd
  have e : q.low.d = k := by
    unfold Q.low
    show q.d.tdiv _ = k
    conv => lhs; rw [show q.d.tdiv (gs q.w q.x q.y q.z q.d) = (gs q.w q.x q.y q.z q.d * k).tdiv (gs q.w q.x q.y q.z q.d) by rw [← hk]]
    rw [Int.mul_tdiv_cancel_left _ hg]
  rw [e]
  have hs : gs q.w q.x q.y q.z q.d = if q.d < 0 then -(g5 q.w q.x q.y q.z q.d : Int) else g5 q.w q.x q.y q.z q.d := rfl
  rcases Int.lt_trichotomy k 0 with h | h | h
  · exfalso
    split at hs
    · have := Int.mul_pos_of_neg_of_neg (a := gs q.w q.x q.y q.z q.d) (b := k) (by omega) h; omega
    · have := Int.mul_neg_of_pos_of_neg (a := gs q.w q.x q.y q.z q.d) (b := k) (by omega) h; omega
  · subst h; simp at hk; exact absurd hk hd
  · exact h
/-- the numbers of a product -/
def pw (A B w x y z w' x' y' z' : Int) : Int := w * w' + A * x * x' + B * y * y' - A * B * z * z'
def px (B w x y z w' x' y' z' : Int) : Int := w * x' + x * w' + B * (z * y' - y * z')
def py (A w x y z w' x' y' z' : Int) : Int := w * y' + y * w' + A * (x * z' - z * x')
def pz (w x y z w' x' y' z' : Int) : Int := w * z' + z * w' + x * y' - y * x'
def mulq (A B : Int) (p q : Q) : Q :=
  ⟨pw A B p.w p.x p.y p.z q.w q.x q.y q.z, px B p.w p.x p.y p.z q.w q.x q.y q.z, py A p.w p.x p.y p.z q.w q.x q.y q.z, pz p.w p.x p.y p.z q.w q.x q.y q.z, p.d * q.d⟩
def addq (p q : Q) : Q := ⟨p.w * q.d + q.w * p.d, p.x * q.d + q.x * p.d, p.y * q.d + q.y * p.d, p.z * q.d + q.z * p.d, p.d * q.d⟩
def conjq (q : Q) : Q := ⟨q.w, -q.x, -q.y, -q.z, q.d⟩
def negq (q : Q) : Q := ⟨-q.w, -q.x, -q.y, -q.z, q.d⟩
def scaleq (q : Q) (n d : Int) : Q := ⟨q.w * n, q.x * n, q.y * n, q.z * n, q.d * d⟩
/-- the norm times the square of the denominator -/
def nm (A B w x y z : Int) : Int := w * w - A * x * x - B * y * y + A * B * z * z
def qin (q : Q) : Prop := (-1000000 ≤ q.w ∧ q.w ≤ 1000000) ∧ (-1000000 ≤ q.x ∧ q.x ≤ 1000000) ∧ (-1000000 ≤ q.y ∧ q.y ≤ 1000000) ∧ (-1000000 ≤ q.z ∧ q.z ≤ 1000000) ∧ 1 ≤ q.d ∧ q.d ≤ 1000000
instance (q : Q) : Decidable (qin q) := by unfold qin; infer_instance
def qB (q : Q) : Bool := decide (qin q)
theorem qB_of {q : Q} (h : qB q = true) : qin q := of_decide_eq_true h
theorem qB_no {q : Q} (h : qB q = false) : ¬ qin q := of_decide_eq_false h
def fitE (q : Q) : Int := if qB q.low then 0 else 8
def fitQ (q : Q) : Q := if qB q.low then q.low else ⟨0, 0, 0, 0, 0⟩
/-- fractions in lowest terms -/
def fg (a b : Int) : Int := sgn b (Int.gcd a b)
def fn (a b : Int) : Int := a.tdiv (fg a b)
def fd (a b : Int) : Int := b.tdiv (fg a b)
theorem g5_two (a b : Int) : g5 a 0 0 0 b = Int.gcd a b := by simp [g5, Int.gcd]
theorem gs_two (a b : Int) : gs a 0 0 0 b = fg a b := by unfold gs fg; rw [g5_two]
theorem low_two (a b : Int) : (Q.mk a 0 0 0 b).low = ⟨fn a b, 0, 0, 0, fd a b⟩ := by
  unfold Q.low fn fd; simp only [gs_two, Int.zero_tdiv]
theorem Q.ext' {p q : Q} (h1 : p.w = q.w) (h2 : p.x = q.x) (h3 : p.y = q.y) (h4 : p.z = q.z) (h5 : p.d = q.d) : p = q := by
  obtain ⟨a, b, c, d, e⟩ := p; obtain ⟨f, g, h, i, j⟩ := q; simp only at h1 h2 h3 h4 h5; subst h1 h2 h3 h4 h5; rfl
/-- each element with a positive denominator is its lowest terms times a positive number -/
theorem Q.lows (q : Q) (h : 0 < q.d) : ∃ c : Int, 0 < c ∧ q = q.low.mulc c := by
  refine ⟨gs q.w q.x q.y q.z q.d, ?_, ?_⟩
  · have := g5_pos (w := q.w) (x := q.x) (y := q.y) (z := q.z) (d := q.d) (by omega)
    unfold gs sgn; rw [if_neg (by omega)]; omega
  · obtain ⟨a, b, e, f, h⟩ := gs_dvd q.w q.x q.y q.z q.d
    unfold Q.low Q.mulc
    simp only [Int.tdiv_mul_cancel a, Int.tdiv_mul_cancel b, Int.tdiv_mul_cancel e, Int.tdiv_mul_cancel f, Int.tdiv_mul_cancel h]
theorem Q.low_low (q : Q) (h : 0 < q.d) : q.low.low = q.low := by
  obtain ⟨c, hc, e⟩ := q.lows h
  have h1 := Q.low_mulc q.low (by have := q.low_pos (by omega); omega) hc
  rw [← e] at h1
  exact h1.symm
/-- the same fraction, the same lowest terms -/
theorem low_eq {p q : Q} (hp : 0 < p.d) (hq : 0 < q.d) (h1 : p.w * q.d = q.w * p.d) (h2 : p.x * q.d = q.x * p.d) (h3 : p.y * q.d = q.y * p.d) (h4 : p.z * q.d = q.z * p.d) : p.low = q.low := by
  rw [← Q.low_mulc p (by omega) hq, ← Q.low_mulc q (by omega) hp]
  congr 1
  exact Q.ext' h1 h2 h3 h4 (Int.mul_comm _ _)
theorem low_mul {A B : Int} {p q : Q} (hp : 0 < p.d) (hq : 0 < q.d) : (mulq A B p.low q.low).low = (mulq A B p q).low := by
  obtain ⟨a, ha, e⟩ := p.lows hp
  obtain ⟨b, hb, f⟩ := q.lows hq
  have h1 := p.low_pos (by omega)
  have h2 := q.low_pos (by omega)
  rw [← Q.low_mulc (mulq A B p.low q.low) (Int.ne_of_gt (Int.mul_pos h1 h2)) (Int.mul_pos ha hb)]
  congr 1
  conv => rhs; rw [e, f]
  generalize p.low = P
  generalize q.low = R
  apply Q.ext' <;> simp only [mulq, Q.mulc, pw, px, py, pz] <;> grind
theorem low_add {p q : Q} (hp : 0 < p.d) (hq : 0 < q.d) : (addq p.low q.low).low = (addq p q).low := by
  obtain ⟨a, ha, e⟩ := p.lows hp
  obtain ⟨b, hb, f⟩ := q.lows hq
  have h1 := p.low_pos (by omega)
  have h2 := q.low_pos (by omega)
  rw [← Q.low_mulc (addq p.low q.low) (Int.ne_of_gt (Int.mul_pos h1 h2)) (Int.mul_pos ha hb)]
  congr 1
  conv => rhs; rw [e, f]
  generalize p.low = P
  generalize q.low = R
  apply Q.ext' <;> simp only [addq, Q.mulc] <;> grind
theorem low_conj {p : Q} (hp : 0 < p.d) : (conjq p.low).low = (conjq p).low := by
  obtain ⟨a, ha, e⟩ := p.lows hp
  have h1 := p.low_pos (by omega)
  rw [← Q.low_mulc (conjq p.low) (Int.ne_of_gt h1) ha]
  congr 1
  conv => rhs; rw [e]
  generalize p.low = P
  apply Q.ext' <;> simp only [conjq, Q.mulc] <;> grind
theorem conj_mul (A B : Int) (p q : Q) : mulq A B (conjq q) (conjq p) = conjq (mulq A B p q) := by
  apply Q.ext' <;> simp only [mulq, conjq, pw, px, py, pz] <;> grind
theorem mul_conj (A B : Int) (p : Q) : mulq A B p (conjq p) = ⟨nm A B p.w p.x p.y p.z, 0, 0, 0, p.d * p.d⟩ := by
  apply Q.ext' <;> simp only [mulq, conjq, nm, pw, px, py, pz] <;> grind
theorem mul_assoc (A B : Int) (p q r : Q) : mulq A B (mulq A B p q) r = mulq A B p (mulq A B q r) := by
  apply Q.ext' <;> simp only [mulq, pw, px, py, pz] <;> grind
theorem nm_mul (A B w x y z w' x' y' z' : Int) : nm A B (pw A B w x y z w' x' y' z') (px B w x y z w' x' y' z') (py A w x y z w' x' y' z') (pz w x y z w' x' y' z') = nm A B w x y z * nm A B w' x' y' z' := by
  simp only [nm, pw, px, py, pz]; grind
theorem fn_dvd (a b : Int) : fg a b ∣ a ∧ fg a b ∣ b := by
  have h1 : ((Int.gcd a b : Nat) : Int) ∣ a := Int.gcd_dvd_left ..
  have h2 : ((Int.gcd a b : Nat) : Int) ∣ b := Int.gcd_dvd_right ..
  unfold fg sgn
  split
  · exact ⟨Int.neg_dvd.2 h1, Int.neg_dvd.2 h2⟩
  · exact ⟨h1, h2⟩
theorem fg_pos {a b : Int} (h : 0 < b) : 0 < fg a b := by
  have : 0 < Int.gcd a b := Int.gcd_pos_of_ne_zero_right _ (by omega)
  unfold fg sgn; rw [if_neg (by omega)]; omega
theorem fn_mul (a b : Int) : fn a b * fg a b = a := Int.tdiv_mul_cancel (fn_dvd a b).1
theorem fd_mul (a b : Int) : fd a b * fg a b = b := Int.tdiv_mul_cancel (fn_dvd a b).2
theorem fd_pos {a b : Int} (h : 0 < b) : 0 < fd a b := by
  have h1 := fd_mul a b
  have h2 := fg_pos (a := a) h
  rcases Int.lt_trichotomy (fd a b) 0 with h3 | h3 | h3
  · have := Int.mul_neg_of_neg_of_pos h3 h2; omega
  · rw [h3] at h1; omega
  · exact h3
theorem f_eq {a b c d : Int} (hb : 0 < b) (hd : 0 < d) (h : a * d = c * b) : fn a b = fn c d ∧ fd a b = fd c d := by
  have := low_eq (p := ⟨a, 0, 0, 0, b⟩) (q := ⟨c, 0, 0, 0, d⟩) hb hd h (by simp) (by simp) (by simp)
  rw [low_two, low_two] at this
  injection this with h1 _ _ _ h5
  exact ⟨h1, h5⟩
end Go.Proofs.Yteiflfmpkfhkoaa.Alm
