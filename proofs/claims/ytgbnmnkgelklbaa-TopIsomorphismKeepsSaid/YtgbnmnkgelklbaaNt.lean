/-
  PLAIN MATHEMATICS: sums, Gauss, quadratic reciprocity, powers. No program.
-/
namespace Go.Proofs.Ytgbnmnkgelklbaa.Nt
/-- A prime. -/
def Pr (p : Nat) : Prop := 2 ≤ p ∧ ∀ d, d ∣ p → d = 1 ∨ d = p

theorem Pr.coprime {p a : Nat} (hp : Pr p) (h : ¬ p ∣ a) : Nat.Coprime p a := by
  rcases hp.2 _ (Nat.gcd_dvd_left p a) with e | e
  · exact e
  · exact absurd (e ▸ Nat.gcd_dvd_right p a) h

theorem Pr.dvd_mul {p a b : Nat} (hp : Pr p) (h : p ∣ a * b) : p ∣ a ∨ p ∣ b := by
  by_cases ha : p ∣ a
  · exact .inl ha
  · exact .inr ((hp.coprime ha).dvd_of_dvd_mul_left h)

theorem Pr.dvd_mul_int {p : Nat} (hp : Pr p) {a b : Int} (h : (p : Int) ∣ a * b) : (p : Int) ∣ a ∨ (p : Int) ∣ b := by
  have h1 : p ∣ a.natAbs * b.natAbs := by rw [← Int.natAbs_mul]; exact Int.ofNat_dvd_left.1 h
  rcases hp.dvd_mul h1 with h2 | h2
  · exact .inl (Int.ofNat_dvd_left.2 h2)
  · exact .inr (Int.ofNat_dvd_left.2 h2)

/-! sums over 1..n -/
def sm (f : Nat → Nat) : Nat → Nat
  | 0 => 0
  | n + 1 => sm f n + f (n + 1)
theorem sm_add (f g : Nat → Nat) (n : Nat) : sm (fun k => f k + g k) n = sm f n + sm g n := by
  induction n with
  | zero => rfl
  | succ n ih => simp only [sm, ih]; omega
theorem sm_congr {f g : Nat → Nat} {n : Nat} (h : ∀ k, 1 ≤ k → k ≤ n → f k = g k) : sm f n = sm g n := by
  induction n with
  | zero => rfl
  | succ n ih => simp only [sm]; rw [ih fun k h1 h2 => h k h1 (by omega), h (n + 1) (by omega) (by omega)]
theorem sm_zero (n : Nat) : sm (fun _ => 0) n = 0 := by
  induction n with
  | zero => rfl
  | succ n ih => simp [sm, ih]
theorem sm_const (c n : Nat) : sm (fun _ => c) n = n * c := by
  induction n with
  | zero => simp [sm]
  | succ n ih => simp only [sm, ih, Nat.succ_mul]
theorem sm_mul (c : Nat) (f : Nat → Nat) (n : Nat) : sm (fun k => c * f k) n = c * sm f n := by
  induction n with
  | zero => rfl
  | succ n ih => simp only [sm, ih, Nat.mul_add]
theorem sm_comm (f : Nat → Nat → Nat) (n m : Nat) : sm (fun i => sm (fun j => f i j) m) n = sm (fun j => sm (fun i => f i j) n) m := by
  induction n with
  | zero => simp only [sm]; rw [sm_zero]
  | succ n ih => simp only [sm, ih]; rw [sm_add]
/-- how many k of 1..n are at most c -/
theorem sm_le (c n : Nat) : sm (fun j => if j ≤ c then 1 else 0) n = min c n := by
  induction n with
  | zero => simp [sm]
  | succ n ih => simp only [sm, ih]; split <;> omega

/-- The sums of floors for two odd numbers without a common divisor. -/
theorem floors (p q : Nat) (hp : p % 2 = 1) (hq : q % 2 = 1) (hc : Nat.Coprime p q) :
    sm (fun k => q * k / p) ((p - 1) / 2) + sm (fun j => p * j / q) ((q - 1) / 2) = (p - 1) / 2 * ((q - 1) / 2) := by
  have key : ∀ (p q : Nat), p % 2 = 1 → q % 2 = 1 → sm (fun k => q * k / p) ((p - 1) / 2) = sm (fun k => sm (fun j => if p * j ≤ q * k then 1 else 0) ((q - 1) / 2)) ((p - 1) / 2) := by
    intro p q hp hq
    refine sm_congr fun k h1 h2 => ?_
    have e : ∀ j, (p * j ≤ q * k) ↔ j ≤ q * k / p := fun j => by
      rw [Nat.le_div_iff_mul_le (by omega), Nat.mul_comm]
    have e2 : (fun j => if p * j ≤ q * k then 1 else 0) = fun j => if j ≤ q * k / p then 1 else 0 := by
      funext j; simp only [e]
    rw [e2, sm_le]
    have : q * k / p ≤ (q - 1) / 2 := by
      rw [Nat.div_le_iff_le_mul (by omega)]
      obtain ⟨a, rfl⟩ : ∃ a, p = 2 * a + 1 := ⟨p / 2, by omega⟩
      obtain ⟨b, rfl⟩ : ∃ b, q = 2 * b + 1 := ⟨q / 2, by omega⟩
      have ea : (2 * a + 1 - 1) / 2 = a := by omega
      have eb : (2 * b + 1 - 1) / 2 = b := by omega
      rw [ea] at h2
      rw [eb]
      have : b * k ≤ b * a := Nat.mul_le_mul_left b h2
      have h4 : (2 * b + 1) * k = 2 * (b * k) + k := by grind
      have h5 : b * (2 * a + 1) = 2 * (b * a) + b := by grind
      omega
    omega
  rw [key p q hp hq, key q p hq hp, sm_comm (fun j k => if q * k ≤ p * j then 1 else 0), ← sm_add]
  rw [← sm_const ((q - 1) / 2)]
  refine sm_congr fun k h1 h2 => ?_
  rw [← sm_add]
  refine Eq.trans (sm_congr (g := fun _ => 1) fun j h3 h4 => ?_) (by rw [sm_const]; omega)
  have hne : p * j ≠ q * k := by
    intro e
    have : p ∣ q * k := ⟨j, e.symm⟩
    have h5 := hc.dvd_of_dvd_mul_left this
    have := Nat.le_of_dvd (by omega) h5
    omega
  by_cases h : p * j ≤ q * k
  · rw [if_pos h, if_neg (by omega)]
  · rw [if_neg h, if_pos (by omega)]
theorem perm_of {l1 : List Nat} : ∀ {l2 : List Nat}, l1.Nodup → (∀ x ∈ l1, x ∈ l2) → l2.length ≤ l1.length → l1.Perm l2 := by
  induction l1 with
  | nil => intro l2 _ _ hl; have : l2 = [] := List.eq_nil_of_length_eq_zero (by simpa using hl); subst this; exact List.Perm.refl _
  | cons x t ih =>
    intro l2 hn hs hl
    have hx : x ∈ l2 := hs x (by simp)
    have hp := List.perm_cons_erase hx
    rw [List.nodup_cons] at hn
    refine List.Perm.trans (List.Perm.cons x (ih hn.2 (fun y hy => ?_) ?_)) hp.symm
    · refine (List.mem_erase_of_ne ?_).2 (hs y (by simp [hy]))
      rintro rfl; exact hn.1 hy
    · rw [List.length_erase_of_mem hx]; simp at hl; omega
def L (h : Nat) : List Nat := List.range' 1 h
theorem mem_L {h x : Nat} : x ∈ L h ↔ 1 ≤ x ∧ x ≤ h := by
  unfold L; rw [List.mem_range'_1]; omega
theorem sm_list (f : Nat → Nat) (n : Nat) : sm f n = ((L n).map f).sum := by
  induction n with
  | zero => rfl
  | succ n ih => simp only [sm, ih, L]; rw [List.range'_concat]; simp [Nat.add_comm]
def pd (f : Nat → Nat) : Nat → Nat
  | 0 => 1
  | n + 1 => pd f n * f (n + 1)
theorem pd_list (f : Nat → Nat) (n : Nat) : pd f n = ((L n).map f).prod := by
  induction n with
  | zero => rfl
  | succ n ih => simp only [pd, ih, L]; rw [List.range'_concat]; simp [Nat.add_comm]
/-- a map of 1..n into itself that is injective -/
theorem perm_map {c : Nat → Nat} {n : Nat} (hin : ∀ k, 1 ≤ k → k ≤ n → 1 ≤ c k ∧ c k ≤ n) (hinj : ∀ i j, 1 ≤ i → i ≤ n → 1 ≤ j → j ≤ n → c i = c j → i = j) : ((L n).map c).Perm (L n) := by
  refine perm_of ?_ ?_ (by simp)
  · unfold List.Nodup
    rw [List.pairwise_map]
    have : (L n).Pairwise (· ≠ ·) := by unfold L; exact List.nodup_range'
    refine List.Pairwise.imp_of_mem (fun {a b} ha hb hne hc => ?_) this
    rw [mem_L] at ha hb
    exact hne (hinj a b ha.1 ha.2 hb.1 hb.2 hc)
  · intro x hx
    obtain ⟨k, hk, rfl⟩ := List.mem_map.1 hx
    rw [mem_L] at hk ⊢
    exact hin k hk.1 hk.2
theorem sm_perm {c : Nat → Nat} {n : Nat} (hin : ∀ k, 1 ≤ k → k ≤ n → 1 ≤ c k ∧ c k ≤ n) (hinj : ∀ i j, 1 ≤ i → i ≤ n → 1 ≤ j → j ≤ n → c i = c j → i = j) : sm c n = sm (fun k => k) n := by
  rw [sm_list, sm_list, List.map_id', (perm_map hin hinj).sum_nat]
theorem pd_perm {c : Nat → Nat} {n : Nat} (hin : ∀ k, 1 ≤ k → k ≤ n → 1 ≤ c k ∧ c k ≤ n) (hinj : ∀ i j, 1 ≤ i → i ≤ n → 1 ≤ j → j ≤ n → c i = c j → i = j) : pd c n = pd (fun k => k) n := by
  rw [pd_list, pd_list, List.map_id', (perm_map hin hinj).prod_nat]

/-! Gauss's lemma -/
def gc (a p k : Nat) : Nat := if a * k % p ≤ (p - 1) / 2 then a * k % p else p - a * k % p
def gs (a p k : Nat) : Nat := if a * k % p ≤ (p - 1) / 2 then 0 else 1
def mu (a p : Nat) : Nat := sm (gs a p) ((p - 1) / 2)
def sg (n : Nat) : Int := if n % 2 = 0 then 1 else -1
theorem sg_add (m n : Nat) : sg (m + n) = sg m * sg n := by
  unfold sg; rcases Nat.mod_two_eq_zero_or_one m with h | h <;> rcases Nat.mod_two_eq_zero_or_one n with h' | h' <;> simp [Nat.add_mod, h, h']
theorem sg_sq (n : Nat) : sg n * sg n = 1 := by unfold sg; split <;> rfl

theorem gc_in {a p : Nat} (hp : Pr p) (ho : p % 2 = 1) (ha : ¬ p ∣ a) (k : Nat) (h1 : 1 ≤ k) (h2 : k ≤ (p - 1) / 2) : 1 ≤ gc a p k ∧ gc a p k ≤ (p - 1) / 2 := by
  have hpos := hp.1
  have hne : a * k % p ≠ 0 := by
    intro e
    rcases hp.dvd_mul (Nat.dvd_of_mod_eq_zero e) with h | h
    · exact ha h
    · have := Nat.le_of_dvd (by omega) h; omega
  have hlt : a * k % p < p := Nat.mod_lt _ (by omega)
  unfold gc; split <;> omega
/-- a k is c or -c modulo p -/
theorem gc_cong (a p k : Nat) (hp : 0 < p) : (p : Int) ∣ (a * k : Nat) - sg (gs a p k) * (gc a p k : Nat) := by
  have hlt : a * k % p < p := Nat.mod_lt _ hp
  have hd := Nat.mod_add_div (a * k) p
  unfold gc gs
  generalize a * k = N at *
  generalize hr : N % p = r at *
  generalize ht : N / p = t at *
  have e : (N : Int) = r + p * t := by rw [← Int.natCast_mul]; omega
  by_cases h : r ≤ (p - 1) / 2
  · rw [if_pos h, if_pos h]
    refine ⟨(t : Nat), ?_⟩
    simp only [sg]; rw [e]; simp; omega
  · rw [if_neg h, if_neg h]
    refine ⟨(t : Nat) + 1, ?_⟩
    simp only [sg]
    have : ((p - r : Nat) : Int) = (p : Int) - r := by omega
    rw [this, Int.mul_add, e]; simp; omega
theorem gc_inj {a p : Nat} (hp : Pr p) (ho : p % 2 = 1) (ha : ¬ p ∣ a) (i j : Nat) (h1 : 1 ≤ i) (h2 : i ≤ (p - 1) / 2) (h3 : 1 ≤ j) (h4 : j ≤ (p - 1) / 2) (e : gc a p i = gc a p j) : i = j := by
  have hpos := hp.1
  have ci := gc_cong a p i (by omega)
  have cj := gc_cong a p j (by omega)
  rw [e] at ci
  have hai : ¬ (p : Int) ∣ (a : Int) := fun h => ha (Int.natCast_dvd_natCast.1 h)
  have conc : ∀ x : Int, (p : Int) ∣ (a : Int) * x → -(p : Int) < x → x < p → x = 0 := by
    intro x hx hlo hhi
    rcases hp.dvd_mul_int hx with h | h
    · exact absurd h hai
    · obtain ⟨q, rfl⟩ := h
      have : q = 0 := by
        by_cases hq : q = 0
        · exact hq
        · exfalso
          rcases Int.lt_or_gt_of_ne hq with hq | hq
          · have : (p : Int) * q ≤ p * (-1) := Int.mul_le_mul_of_nonneg_left (by omega) (by omega)
            omega
          · have : (p : Int) * 1 ≤ p * q := Int.mul_le_mul_of_nonneg_left (by omega) (by omega)
            omega
      rw [this]; simp
  have pm : ∀ n, sg n = 1 ∨ sg n = -1 := fun n => by unfold sg; split <;> simp
  have hsame : (p : Int) ∣ (a * i : Nat) - (a * j : Nat) → i = j := fun h => by
    have := conc ((i : Int) - j) (by rw [Int.mul_sub]; exact_mod_cast h) (by omega) (by omega)
    omega
  have hopp : (p : Int) ∣ (a * i : Nat) + (a * j : Nat) → i = j := fun h => by
    have := conc ((i : Int) + j) (by rw [Int.mul_add]; exact_mod_cast h) (by omega) (by omega)
    omega
  rcases pm (gs a p i) with si | si <;> rcases pm (gs a p j) with sj | sj <;> rw [si] at ci <;> rw [sj] at cj
  · exact hsame (by have := Int.dvd_sub ci cj; simpa using (by have e : ((a * i : Nat) : Int) - 1 * (gc a p j : Nat) - ((a * j : Nat) - 1 * (gc a p j : Nat)) = (a * i : Nat) - (a * j : Nat) := by omega
                                                               rw [e] at this; exact this))
  · exact hopp (by have := Int.dvd_add ci cj; have e : ((a * i : Nat) : Int) - 1 * (gc a p j : Nat) + ((a * j : Nat) - -1 * (gc a p j : Nat)) = (a * i : Nat) + (a * j : Nat) := by omega
                   rw [e] at this; exact this)
  · exact hopp (by have := Int.dvd_add ci cj; have e : ((a * i : Nat) : Int) - -1 * (gc a p j : Nat) + ((a * j : Nat) - 1 * (gc a p j : Nat)) = (a * i : Nat) + (a * j : Nat) := by omega
                   rw [e] at this; exact this)
  · exact hsame (by have := Int.dvd_sub ci cj; have e : ((a * i : Nat) : Int) - -1 * (gc a p j : Nat) - ((a * j : Nat) - -1 * (gc a p j : Nat)) = (a * i : Nat) - (a * j : Nat) := by omega
                    rw [e] at this; exact this)
/-- the product of the a k -/
theorem gauss_prod (a p : Nat) (hp : 0 < p) (n : Nat) : (p : Int) ∣ (a : Int) ^ n * (pd (fun k => k) n : Nat) - sg (sm (gs a p) n) * (pd (gc a p) n : Nat) := by
  induction n with
  | zero => simp [pd, sm, sg]
  | succ n ih =>
    have hc := gc_cong a p (n + 1) hp
    simp only [pd, sm, sg_add]
    obtain ⟨x, hx⟩ := ih
    obtain ⟨y, hy⟩ := hc
    refine ⟨x * (a * (n + 1 : Nat) : Nat) + sg (sm (gs a p) n) * (pd (gc a p) n : Nat) * y, ?_⟩
    rw [Int.natCast_mul, Int.natCast_mul, Int.pow_succ]
    rw [Int.natCast_mul] at hy ⊢
    generalize ((pd (fun k => k) n : Nat) : Int) = P at *
    generalize ((pd (gc a p) n : Nat) : Int) = C at *
    generalize ((gc a p (n + 1) : Nat) : Int) = c at *
    generalize sg (sm (gs a p) n) = s at *
    generalize sg (gs a p (n + 1)) = t at *
    generalize ((n + 1 : Nat) : Int) = m at *
    generalize (a : Int) ^ n = A at *
    grind
theorem fact_ndvd {p : Nat} (hp : Pr p) (n : Nat) (h : n < p) : ¬ p ∣ pd (fun k => k) n := by
  induction n with
  | zero => intro hd; have := Nat.le_of_dvd (by simp [pd]) hd; have := hp.1; simp [pd] at *; omega
  | succ n ih =>
    intro hd
    rcases hp.dvd_mul hd with h1 | h1
    · exact ih (by omega) h1
    · have : p ≤ n + 1 := Nat.le_of_dvd (by omega) h1; omega
/-- Gauss: a^((p-1)/2) is the sign of mu modulo p. -/
theorem gauss {a p : Nat} (hp : Pr p) (ho : p % 2 = 1) (ha : ¬ p ∣ a) : (p : Int) ∣ (a : Int) ^ ((p - 1) / 2) - sg (mu a p) := by
  have hpos := hp.1
  have h1 := gauss_prod a p (by omega) ((p - 1) / 2)
  rw [pd_perm (gc_in hp ho ha) (gc_inj hp ho ha), ← Int.sub_mul] at h1
  rcases hp.dvd_mul_int h1 with h | h
  · exact h
  · exact absurd (Int.natCast_dvd_natCast.1 h) (fact_ndvd hp _ (by omega))
/-- the parity of mu -/
theorem mu_par (a p : Nat) (hp : Pr p) (ho : p % 2 = 1) (ha : ¬ p ∣ a) : (a * sm (fun k => k) ((p - 1) / 2)) % 2 = (sm (fun k => a * k / p) ((p - 1) / 2) + mu a p + sm (fun k => k) ((p - 1) / 2)) % 2 := by
  have hs := sm_perm (gc_in hp ho ha) (gc_inj hp ho ha)
  have hpos := hp.1
  have gen : ∀ n, (a * sm (fun k => k) n) % 2 = (sm (fun k => a * k / p) n + sm (gs a p) n + sm (gc a p) n) % 2 := by
    intro n
    rw [← sm_mul]
    induction n with
    | zero => rfl
    | succ n ih =>
      simp only [sm]
      have hd := Nat.mod_add_div (a * (n + 1)) p
      have hlt : a * (n + 1) % p < p := Nat.mod_lt _ (by omega)
      have h2 : (p * (a * (n + 1) / p)) % 2 = (a * (n + 1) / p) % 2 := by rw [Nat.mul_mod, ho, Nat.one_mul, Nat.mod_mod]
      have h3 : (gs a p (n + 1) + gc a p (n + 1)) % 2 = (a * (n + 1) % p) % 2 := by
        unfold gs gc; split <;> omega
      omega
  rw [gen, hs]; rfl
/-! Euler's criterion as the symbol -/
theorem pow_emod (a m : Int) (n : Nat) : (a % m) ^ n % m = a ^ n % m := by
  induction n with
  | zero => simp
  | succ n ih => rw [Int.pow_succ, Int.pow_succ, Int.mul_emod, ih, Int.emod_emod_of_dvd _ (Int.dvd_refl m), ← Int.mul_emod]
def leg (a : Int) (p : Nat) : Int := if a ^ ((p - 1) / 2) % (p : Int) = 0 then 0 else if a ^ ((p - 1) / 2) % (p : Int) = 1 then 1 else -1
theorem leg_mod (a : Int) (p : Nat) : leg (a % p) p = leg a p := by unfold leg; rw [pow_emod]
theorem leg_congr {a b : Int} {p : Nat} (h : a % (p : Int) = b % p) : leg a p = leg b p := by rw [← leg_mod a, h, leg_mod]
theorem leg_zero {a : Int} {p : Nat} (hp : Pr p) (ho : p % 2 = 1) (h : (p : Int) ∣ a) : leg a p = 0 := by
  have := hp.1
  have e : a % (p : Int) = (0 : Int) % p := by rw [Int.emod_eq_zero_of_dvd h]; simp
  rw [leg_congr e]; unfold leg
  have : (p - 1) / 2 ≠ 0 := by omega
  rw [Int.zero_pow this]; simp
def Sgn (x : Int) : Prop := x = 0 ∨ x = 1 ∨ x = -1
theorem Sgn.eq {x y : Int} {p : Nat} (hx : Sgn x) (hy : Sgn y) (hp : 3 ≤ p) (h : (p : Int) ∣ x - y) : x = y := by
  obtain ⟨q, hq⟩ := h
  have : q = 0 := by
    by_cases hz : q = 0
    · exact hz
    · exfalso
      rcases Int.lt_or_gt_of_ne hz with h | h
      · have : (p : Int) * q ≤ p * (-1) := Int.mul_le_mul_of_nonneg_left (by omega) (by omega)
        rcases hx with rfl | rfl | rfl <;> rcases hy with rfl | rfl | rfl <;> omega
      · have : (p : Int) * 1 ≤ p * q := Int.mul_le_mul_of_nonneg_left (by omega) (by omega)
        rcases hx with rfl | rfl | rfl <;> rcases hy with rfl | rfl | rfl <;> omega
  rw [this] at hq; omega
theorem leg_sgn (a : Int) (p : Nat) : Sgn (leg a p) := by unfold leg Sgn; split <;> (try split) <;> simp
theorem sg_sgn (n : Nat) : Sgn (sg n) := by unfold sg Sgn; split <;> simp
theorem Sgn.mul {x y : Int} (hx : Sgn x) (hy : Sgn y) : Sgn (x * y) := by
  unfold Sgn at *
  rcases hx with rfl | rfl | rfl <;> rcases hy with rfl | rfl | rfl <;> simp
theorem leg_sg {a p : Nat} (hp : Pr p) (ho : p % 2 = 1) (ha : ¬ p ∣ a) : leg (a : Int) p = sg (mu a p) := by
  have hpos := hp.1
  obtain ⟨q, hq⟩ := gauss hp ho ha
  have e : (a : Int) ^ ((p - 1) / 2) = sg (mu a p) + p * q := by omega
  unfold leg
  rw [e, Int.add_mul_emod_self_left]
  unfold sg
  split
  · rw [Int.emod_eq_of_lt (by omega) (by omega)]; simp
  · have : (-1 : Int) % p = p - 1 := by
      have e1 : (-1 : Int) = ((p : Int) - 1) + p * (-1) := by omega
      rw [e1, Int.add_mul_emod_self_left, Int.emod_eq_of_lt (by omega) (by omega)]
    rw [this, if_neg (by omega), if_neg (by omega)]
theorem to_nat (a : Int) (p : Nat) (hp : 0 < p) : ∃ n : Nat, a % (p : Int) = n ∧ leg a p = leg (n : Int) p := by
  have h := Int.emod_nonneg a (b := (p : Int)) (by omega)
  refine ⟨(a % (p : Int)).toNat, by omega, ?_⟩
  rw [← leg_mod a]; congr 1; omega
theorem leg_cong {p : Nat} (hp : Pr p) (ho : p % 2 = 1) (a : Int) : (p : Int) ∣ a ^ ((p - 1) / 2) - leg a p := by
  have hpos := hp.1
  by_cases h : (p : Int) ∣ a
  · rw [leg_zero hp ho h, Int.sub_zero]
    obtain ⟨k, hk⟩ : ∃ k, (p - 1) / 2 = k + 1 := ⟨(p - 1) / 2 - 1, by omega⟩
    rw [hk, Int.pow_succ]; exact Int.dvd_mul_of_dvd_right h
  · obtain ⟨n, hn, hl⟩ := to_nat a p (by omega)
    have hnd : ¬ p ∣ n := fun hd => h (by
      have : a % (p : Int) % p = 0 := by rw [hn]; exact Int.emod_eq_zero_of_dvd (Int.natCast_dvd_natCast.2 hd)
      rw [Int.emod_emod_of_dvd _ (Int.dvd_refl _)] at this
      exact Int.dvd_of_emod_eq_zero this)
    rw [hl, leg_sg hp ho hnd]
    have hg := gauss hp ho hnd
    rw [← hn] at hg
    have e1 := Int.emod_eq_zero_of_dvd hg
    apply Int.dvd_of_emod_eq_zero
    rw [Int.sub_emod, ← pow_emod, ← Int.sub_emod]; exact e1
theorem leg_mul {p : Nat} (hp : Pr p) (ho : p % 2 = 1) (a b : Int) : leg (a * b) p = leg a p * leg b p := by
  have hpos := hp.1
  refine Sgn.eq (leg_sgn _ _) (Sgn.mul (leg_sgn _ _) (leg_sgn _ _)) (by omega : 3 ≤ p) ?_
  have h1 := leg_cong hp ho (a * b)
  obtain ⟨x, hx⟩ := leg_cong hp ho a
  obtain ⟨y, hy⟩ := leg_cong hp ho b
  obtain ⟨z, hz⟩ := h1
  rw [Int.mul_pow] at hz
  generalize a ^ ((p - 1) / 2) = A at *
  generalize b ^ ((p - 1) / 2) = B at *
  generalize leg a p = l at *
  generalize leg b p = m at *
  generalize leg (a * b) p = n at *
  exact ⟨x * B + l * y - z, by grind⟩
theorem leg_one {p : Nat} (hp : Pr p) : leg 1 p = 1 := by
  have := hp.1
  unfold leg; rw [Int.one_pow, Int.emod_eq_of_lt (by omega) (by omega)]; simp
theorem leg_sq {p : Nat} (hp : Pr p) (ho : p % 2 = 1) {a : Int} (h : ¬ (p : Int) ∣ a) : leg a p * leg a p = 1 := by
  have hpos := hp.1
  obtain ⟨n, hn, hl⟩ := to_nat a p (by omega)
  have hnd : ¬ p ∣ n := fun hd => h (by
      have : a % (p : Int) % p = 0 := by rw [hn]; exact Int.emod_eq_zero_of_dvd (Int.natCast_dvd_natCast.2 hd)
      rw [Int.emod_emod_of_dvd _ (Int.dvd_refl _)] at this
      exact Int.dvd_of_emod_eq_zero this)
  rw [hl, leg_sg hp ho hnd, sg_sq]
theorem sg_congr {m n : Nat} (h : m % 2 = n % 2) : sg m = sg n := by unfold sg; rw [h]
theorem leg_neg_one {p : Nat} (hp : Pr p) (ho : p % 2 = 1) : leg (-1) p = sg ((p - 1) / 2) := by
  have hpos := hp.1
  refine Sgn.eq (leg_sgn _ _) (sg_sgn _) (by omega : 3 ≤ p) ?_
  have h := leg_cong hp ho (-1)
  have e : ∀ n : Nat, (-1 : Int) ^ n = sg n := by
    intro n
    induction n with
    | zero => rfl
    | succ n ih => rw [Int.pow_succ, ih, sg_add]; rfl
  rw [e] at h
  obtain ⟨x, hx⟩ := h
  exact ⟨-x, by rw [Int.mul_neg]; omega⟩
theorem leg_floor {a p : Nat} (hp : Pr p) (ho : p % 2 = 1) (ha : ¬ p ∣ a) (h2 : a % 2 = 1) : leg (a : Int) p = sg (sm (fun k => a * k / p) ((p - 1) / 2)) := by
  rw [leg_sg hp ho ha]
  have h := mu_par a p hp ho ha
  rw [Nat.mul_mod, h2, Nat.one_mul, Nat.mod_mod] at h
  exact sg_congr (by omega)
theorem Pr.ndvd {p q : Nat} (hp : Pr p) (hq : Pr q) (h : p ≠ q) : ¬ p ∣ q := fun hd => by
  rcases hq.2 p hd with e | e
  · have := hp.1; omega
  · exact h e
/-- quadratic reciprocity -/
theorem leg_qr {p q : Nat} (hp : Pr p) (hq : Pr q) (op : p % 2 = 1) (oq : q % 2 = 1) (h : p ≠ q) : leg (p : Int) q * leg (q : Int) p = sg ((p - 1) / 2 * ((q - 1) / 2)) := by
  rw [leg_floor hp op (hp.ndvd hq h) oq, leg_floor hq oq (hq.ndvd hp (Ne.symm h)) op, ← sg_add, Nat.add_comm, floors p q op oq (hp.coprime (hp.ndvd hq h))]
theorem sm_id (n : Nat) : 2 * sm (fun k => k) n = n * (n + 1) := by
  induction n with
  | zero => rfl
  | succ n ih => simp only [sm]; rw [Nat.mul_add, ih]; grind
def chi8 (n : Nat) : Int := if n % 8 = 1 ∨ n % 8 = 7 then 1 else -1
def chi4 (n : Nat) : Int := if n % 4 = 1 then 1 else -1
theorem leg_two {p : Nat} (hp : Pr p) (ho : p % 2 = 1) : leg 2 p = chi8 p := by
  have hpos := hp.1
  have hn : ¬ p ∣ 2 := fun hd => by have := Nat.le_of_dvd (by omega) hd; omega
  have e0 : leg 2 p = leg ((2 : Nat) : Int) p := rfl
  rw [e0, leg_sg hp ho hn]
  have h := mu_par 2 p hp ho hn
  have e : sm (fun k => 2 * k / p) ((p - 1) / 2) = 0 := by
    rw [← sm_zero ((p - 1) / 2)]
    exact sm_congr fun k _ h2 => Nat.div_eq_of_lt (by omega)
  rw [e, Nat.zero_add] at h
  have hi := sm_id ((p - 1) / 2)
  have : mu 2 p % 2 = sm (fun k => k) ((p - 1) / 2) % 2 := by omega
  rw [sg_congr this]
  generalize sm (fun k => k) ((p - 1) / 2) = S at *
  obtain ⟨t, ht⟩ : ∃ t, p = 8 * t + p % 8 := ⟨p / 8, by omega⟩
  have hr : p % 8 = 1 ∨ p % 8 = 3 ∨ p % 8 = 5 ∨ p % 8 = 7 := by omega
  unfold sg chi8
  rcases hr with r | r | r | r
  · have e : (p - 1) / 2 = 4 * t := by omega
    rw [e] at hi
    have : S = 2 * (t * (4 * t + 1)) := by grind
    rw [if_pos (by omega), if_pos (.inl r)]
  · have e : (p - 1) / 2 = 4 * t + 1 := by omega
    rw [e] at hi
    have : S = 2 * (4 * t * t + 3 * t) + 1 := by grind
    rw [if_neg (by omega), if_neg (by omega)]
  · have e : (p - 1) / 2 = 4 * t + 2 := by omega
    rw [e] at hi
    have : S = 2 * (4 * t * t + 5 * t + 1) + 1 := by grind
    rw [if_neg (by omega), if_neg (by omega)]
  · have e : (p - 1) / 2 = 4 * t + 3 := by omega
    rw [e] at hi
    have : S = 2 * (4 * t * t + 7 * t + 3) := by grind
    rw [if_pos (by omega), if_pos (.inr r)]

/-! Jacobi's symbol along a list of odd primes -/
def Odds (l : List Nat) : Prop := ∀ p ∈ l, Pr p ∧ p % 2 = 1
def jl (a : Int) : List Nat → Int
  | [] => 1
  | p :: l => leg a p * jl a l
theorem Odds.tail {p : Nat} {l : List Nat} (h : Odds (p :: l)) : Odds l := fun q hq => h q (by simp [hq])
theorem Odds.prod_odd : ∀ {l : List Nat}, Odds l → l.prod % 2 = 1
  | [], _ => rfl
  | p :: l, h => by rw [List.prod_cons, Nat.mul_mod, (h p (by simp)).2, h.tail.prod_odd]
theorem jl_mul : ∀ {l : List Nat}, Odds l → ∀ a b : Int, jl (a * b) l = jl a l * jl b l
  | [], _, _, _ => rfl
  | p :: l, h, a, b => by
    simp only [jl]; rw [leg_mul (h p (by simp)).1 (h p (by simp)).2, jl_mul h.tail]; grind
theorem jl_app (a : Int) : ∀ l m : List Nat, jl a (l ++ m) = jl a l * jl a m
  | [], m => by simp [jl]
  | p :: l, m => by simp only [List.cons_append, jl]; rw [jl_app a l m, Int.mul_assoc]
theorem jl_congr {a b : Int} : ∀ {l : List Nat} {n : Nat}, l.prod ∣ n → a % (n : Int) = b % n → jl a l = jl b l
  | [], _, _, _ => rfl
  | p :: l, n, hn, h => by
    simp only [jl]
    rw [List.prod_cons] at hn
    rw [jl_congr (Nat.dvd_trans (Nat.dvd_mul_left _ _) hn) h]
    congr 1
    have hd : (p : Int) ∣ n := Int.natCast_dvd_natCast.2 (Nat.dvd_trans (Nat.dvd_mul_right _ _) hn)
    apply leg_congr
    rw [← Int.emod_emod_of_dvd a hd, h, Int.emod_emod_of_dvd b hd]
theorem jl_one : ∀ {l : List Nat}, Odds l → jl 1 l = 1
  | [], _ => rfl
  | p :: l, h => by simp only [jl]; rw [leg_one (h p (by simp)).1, jl_one h.tail]; rfl
theorem jl_sgn (a : Int) : ∀ l : List Nat, Sgn (jl a l)
  | [] => .inr (.inl rfl)
  | p :: l => Sgn.mul (leg_sgn a p) (jl_sgn a l)
theorem chi8_mul (m n : Nat) (hm : m % 2 = 1) (hn : n % 2 = 1) : chi8 (m * n) = chi8 m * chi8 n := by
  unfold chi8
  rw [Nat.mul_mod]
  have h1 : m % 8 = 1 ∨ m % 8 = 3 ∨ m % 8 = 5 ∨ m % 8 = 7 := by omega
  have h2 : n % 8 = 1 ∨ n % 8 = 3 ∨ n % 8 = 5 ∨ n % 8 = 7 := by omega
  rcases h1 with h1 | h1 | h1 | h1 <;> rcases h2 with h2 | h2 | h2 | h2 <;> rw [h1, h2] <;> rfl
theorem chi4_mul (m n : Nat) (hm : m % 2 = 1) (hn : n % 2 = 1) : chi4 (m * n) = chi4 m * chi4 n := by
  unfold chi4
  rw [Nat.mul_mod]
  have h1 : m % 4 = 1 ∨ m % 4 = 3 := by omega
  have h2 : n % 4 = 1 ∨ n % 4 = 3 := by omega
  rcases h1 with h1 | h1 <;> rcases h2 with h2 | h2 <;> rw [h1, h2] <;> rfl
theorem jl_two : ∀ {l : List Nat}, Odds l → jl 2 l = chi8 l.prod
  | [], _ => rfl
  | p :: l, h => by
    simp only [jl]; rw [leg_two (h p (by simp)).1 (h p (by simp)).2, jl_two h.tail, List.prod_cons, chi8_mul _ _ (h p (by simp)).2 h.tail.prod_odd]
theorem chi4_sg (p : Nat) (h : p % 2 = 1) : chi4 p = sg ((p - 1) / 2) := by
  unfold chi4 sg
  by_cases h : p % 4 = 1
  · rw [if_pos h, if_pos (by omega)]
  · rw [if_neg h, if_neg (by omega)]
theorem jl_neg_one : ∀ {l : List Nat}, Odds l → jl (-1) l = chi4 l.prod
  | [], _ => rfl
  | p :: l, h => by
    simp only [jl]; rw [leg_neg_one (h p (by simp)).1 (h p (by simp)).2, jl_neg_one h.tail, List.prod_cons, chi4_mul _ _ (h p (by simp)).2 h.tail.prod_odd, chi4_sg _ (h p (by simp)).2]
theorem jl_zero {a : Int} {p : Nat} (hd : (p : Int) ∣ a) : ∀ {l : List Nat}, Odds l → p ∈ l → jl a l = 0
  | [], _, h => by simp at h
  | q :: l, ho, h => by
    simp only [jl]
    rcases List.mem_cons.1 h with rfl | h
    · rw [leg_zero (ho p (by simp)).1 (ho p (by simp)).2 hd, Int.zero_mul]
    · rw [jl_zero hd ho.tail h, Int.mul_zero]
/-- the sign of reciprocity: -1 if both are 3 modulo 4 -/
def rec4 (m n : Nat) : Int := if m % 4 = 3 ∧ n % 4 = 3 then -1 else 1
theorem rec4_sg (m n : Nat) (hm : m % 2 = 1) (hn : n % 2 = 1) : sg ((m - 1) / 2 * ((n - 1) / 2)) = rec4 m n := by
  unfold sg rec4
  rw [Nat.mul_mod]
  have h1 : m % 4 = 1 ∨ m % 4 = 3 := by omega
  have h2 : n % 4 = 1 ∨ n % 4 = 3 := by omega
  rcases h1 with h1 | h1 <;> rcases h2 with h2 | h2
  · have e : (m - 1) / 2 % 2 = 0 := by omega
    rw [e]; simp [h1]
  · have e : (m - 1) / 2 % 2 = 0 := by omega
    rw [e]; simp [h1]
  · have e : (n - 1) / 2 % 2 = 0 := by omega
    rw [e]; simp [h2]
  · have e : (m - 1) / 2 % 2 = 1 := by omega
    have e' : (n - 1) / 2 % 2 = 1 := by omega
    rw [e, e']; simp [h1, h2]
theorem rec4_mul (m n k : Nat) (hm : m % 2 = 1) (hn : n % 2 = 1) : rec4 (m * n) k = rec4 m k * rec4 n k := by
  unfold rec4
  rw [Nat.mul_mod]
  have h1 : m % 4 = 1 ∨ m % 4 = 3 := by omega
  have h2 : n % 4 = 1 ∨ n % 4 = 3 := by omega
  rcases h1 with h1 | h1 <;> rcases h2 with h2 | h2 <;> rw [h1, h2] <;> by_cases hk : k % 4 = 3 <;> simp [hk]
theorem rec4_comm (m n : Nat) : rec4 m n = rec4 n m := by unfold rec4; simp only [And.comm]
theorem qr1 {p : Nat} (hp : Pr p) (op : p % 2 = 1) : ∀ {l : List Nat}, Odds l → p ∉ l → leg (l.prod : Int) p * jl (p : Int) l = rec4 p l.prod
  | [], _, _ => by
    simp only [List.prod_nil, jl]
    have e : ((1 : Nat) : Int) = 1 := rfl
    rw [e, leg_one hp]; simp [rec4]
  | q :: l, h, hn => by
    have hq := h q (by simp)
    have ih := qr1 hp op h.tail (fun hm => hn (by simp [hm]))
    have h2 := leg_qr hp hq.1 op hq.2 (fun e => hn (by simp [e]))
    rw [rec4_sg p q op hq.2] at h2
    simp only [jl, List.prod_cons]
    rw [Int.natCast_mul, leg_mul hp op, rec4_comm, rec4_mul _ _ _ hq.2 h.tail.prod_odd, rec4_comm q, rec4_comm l.prod, ← ih, ← h2]
    grind
theorem qr {m : List Nat} (hm : Odds m) : ∀ {l : List Nat}, Odds l → (∀ p ∈ l, p ∉ m) → jl (m.prod : Int) l * jl (l.prod : Int) m = rec4 l.prod m.prod
  | [], _, _ => by
    simp only [List.prod_nil, jl]
    have e : ((1 : Nat) : Int) = 1 := rfl
    rw [e, jl_one hm]; simp [rec4]
  | p :: l, h, hn => by
    have hp := h p (by simp)
    have ih := qr hm h.tail (fun q hq => hn q (by simp [hq]))
    have h1 := qr1 hp.1 hp.2 hm (hn p (by simp))
    simp only [jl, List.prod_cons]
    rw [Int.natCast_mul, jl_mul hm, rec4_mul _ _ _ hp.2 h.tail.prod_odd, ← ih, ← h1]
    grind
end Go.Proofs.Ytgbnmnkgelklbaa.Nt
