/-
  PLAIN MATHEMATICS: the Jacobi symbol by the primes of its modulus. No program.
-/
import Derived.Test.YtgbnmnkgelklbaaNt
namespace Go.Proofs.Ytgbnmnkgelklbaa.Nt

def Primes (l : List Nat) : Prop := ∀ p ∈ l, Pr p
theorem exists_pf : ∀ (n : Nat), 1 ≤ n → ∃ l, Primes l ∧ l.prod = n := by
  intro n
  induction n using Nat.strongRecOn with
  | _ n ih =>
    intro h1
    by_cases h2 : n = 1
    · exact ⟨[], fun p hp => by simp at hp, by simp [h2]⟩
    · by_cases hp : Pr n
      · exact ⟨[n], fun p hq => by simp at hq; rw [hq]; exact hp, by simp⟩
      · have : ∃ d, d ∣ n ∧ d ≠ 1 ∧ d ≠ n := by
          apply Classical.byContradiction
          intro hc
          refine hp ⟨by omega, fun d hd => ?_⟩
          by_cases e : d = 1
          · exact .inl e
          · by_cases e' : d = n
            · exact .inr e'
            · exact absurd ⟨d, hd, e, e'⟩ hc
        obtain ⟨d, ⟨e, he⟩, hd1, hdn⟩ := this
        have hd0 : d ≠ 0 := by rintro rfl; simp at he; omega
        have he0 : e ≠ 0 := by rintro rfl; simp at he; omega
        have he1 : e ≠ 1 := by rintro rfl; simp at he; omega
        have hdl : d < n := by
          have : d * 1 < d * e := Nat.mul_lt_mul_of_pos_left (by omega) (by omega)
          omega
        have hel : e < n := by
          have : 1 * e < d * e := Nat.mul_lt_mul_of_pos_right (by omega) (by omega)
          omega
        obtain ⟨l, hl, hlp⟩ := ih d hdl (by omega)
        obtain ⟨m, hm, hmp⟩ := ih e hel (by omega)
        refine ⟨l ++ m, fun p hp => ?_, by rw [List.prod_append, hlp, hmp, he]⟩
        rcases List.mem_append.1 hp with h | h
        · exact hl p h
        · exact hm p h
noncomputable def pf (n : Nat) : List Nat := if h : 1 ≤ n then Classical.choose (exists_pf n h) else []
theorem pf_primes {n : Nat} (h : 1 ≤ n) : Primes (pf n) := by unfold pf; rw [dif_pos h]; exact (Classical.choose_spec (exists_pf n h)).1
theorem pf_prod {n : Nat} (h : 1 ≤ n) : (pf n).prod = n := by unfold pf; rw [dif_pos h]; exact (Classical.choose_spec (exists_pf n h)).2
theorem dvd_prod {p : Nat} : ∀ {l : List Nat}, p ∈ l → p ∣ l.prod
  | q :: l, h => by
    rw [List.prod_cons]
    rcases List.mem_cons.1 h with rfl | h
    · exact Nat.dvd_mul_right _ _
    · exact Nat.dvd_trans (dvd_prod h) (Nat.dvd_mul_left _ _)
theorem mem_of_dvd {p : Nat} (hp : Pr p) : ∀ {l : List Nat}, Primes l → p ∣ l.prod → p ∈ l
  | [], _, h => by
    have h1 : p ∣ 1 := h
    have h2 := Nat.le_of_dvd (by omega) h1; have h3 := hp.1; omega
  | q :: l, hl, h => by
    rw [List.prod_cons] at h
    rcases hp.dvd_mul h with h | h
    · rcases (hl q (by simp)).2 p h with e | e
      · have := hp.1; omega
      · simp [e]
    · exact List.mem_cons_of_mem _ (mem_of_dvd hp (fun r hr => hl r (by simp [hr])) h)
theorem Odds.of {l : List Nat} (hl : Primes l) (ho : l.prod % 2 = 1) : Odds l := fun p hp => by
  refine ⟨hl p hp, ?_⟩
  obtain ⟨k, hk⟩ := dvd_prod hp
  rcases Nat.mod_two_eq_zero_or_one p with h | h
  · rw [hk, Nat.mul_mod, h] at ho; simp at ho
  · exact h
theorem Odds.primes {l : List Nat} (h : Odds l) : Primes l := fun p hp => (h p hp).1
theorem pf_odds {n : Nat} (h : n % 2 = 1) : Odds (pf n) := Odds.of (pf_primes (by omega)) (by rw [pf_prod (by omega)]; exact h)
theorem jl_erase (a : Int) {p : Nat} : ∀ {l : List Nat}, p ∈ l → jl a l = leg a p * jl a (l.erase p) ∧ l.prod = p * (l.erase p).prod
  | q :: l, h => by
    by_cases e : q = p
    · subst e; rw [List.erase_cons_head]; exact ⟨rfl, List.prod_cons⟩
    · rw [List.erase_cons_tail (by simpa using e)]
      have hm : p ∈ l := by
        rcases List.mem_cons.1 h with h | h
        · exact absurd h.symm e
        · exact h
      obtain ⟨h1, h2⟩ := jl_erase a hm
      refine ⟨?_, ?_⟩
      · simp only [jl]; rw [h1]; grind
      · rw [List.prod_cons, List.prod_cons, h2]; grind
theorem jl_unique (a : Int) : ∀ {l l' : List Nat}, Odds l → Odds l' → l.prod = l'.prod → jl a l = jl a l'
  | [], l', _, h', e => by
    match l', h', e with
    | [], _, _ => rfl
    | q :: t, h', e =>
      have h2 := (h' q (by simp)).1.1
      rw [List.prod_cons] at e
      have : q ∣ 1 := ⟨t.prod, by simpa using e⟩
      have := Nat.le_of_dvd (by omega) this
      omega
  | p :: t, l', h, h', e => by
    have hp := h p (by simp)
    have hm : p ∈ l' := mem_of_dvd hp.1 h'.primes (by rw [← e, List.prod_cons]; exact Nat.dvd_mul_right _ _)
    obtain ⟨h1, h2⟩ := jl_erase a hm
    have ho : Odds (l'.erase p) := fun r hr => h' r (List.mem_of_mem_erase hr)
    rw [h1]
    simp only [jl]
    rw [jl_unique a h.tail ho]
    rw [List.prod_cons, h2] at e
    exact Nat.eq_of_mul_eq_mul_left (by have := hp.1.1; omega) e

/-- The Jacobi symbol. -/
noncomputable def jac (a : Int) (n : Nat) : Int := jl a (pf n)
theorem jac_list (a : Int) {l : List Nat} (h : Odds l) : jac a l.prod = jl a l := by
  have h1 := h.prod_odd
  exact jl_unique a (pf_odds h1) h (pf_prod (by omega))
theorem jac_one (a : Int) : jac a 1 = 1 := by
  have := jac_list a (l := []) (fun p hp => by simp at hp)
  simpa [jl] using this
theorem jac_prime (a : Int) {p : Nat} (hp : Pr p) (ho : p % 2 = 1) : jac a p = leg a p := by
  have := jac_list a (l := [p]) (fun q hq => by simp at hq; rw [hq]; exact ⟨hp, ho⟩)
  simpa [jl] using this
theorem jac_mul_right (a : Int) {m n : Nat} (hm : m % 2 = 1) (hn : n % 2 = 1) : jac a (m * n) = jac a m * jac a n := by
  have h : Odds (pf m ++ pf n) := fun p hp => by
    rcases List.mem_append.1 hp with h | h
    · exact pf_odds hm p h
    · exact pf_odds hn p h
  have := jac_list a h
  rw [List.prod_append, pf_prod (by omega), pf_prod (by omega), jl_app] at this
  exact this
theorem jac_mul {n : Nat} (hn : n % 2 = 1) (a b : Int) : jac (a * b) n = jac a n * jac b n := jl_mul (pf_odds hn) a b
theorem jac_mod {n : Nat} (hn : n % 2 = 1) (a : Int) : jac (a % (n : Int)) n = jac a n :=
  jl_congr (n := n) (by rw [pf_prod (by omega)]; exact Nat.dvd_refl _) (by rw [Int.emod_emod_of_dvd _ (Int.dvd_refl _)])
theorem jac_sgn (a : Int) (n : Nat) : Sgn (jac a n) := jl_sgn a _
theorem jac_two {n : Nat} (hn : n % 2 = 1) : jac 2 n = chi8 n := by
  have := jl_two (pf_odds hn); rw [pf_prod (by omega)] at this; exact this
theorem jac_neg_one {n : Nat} (hn : n % 2 = 1) : jac (-1) n = chi4 n := by
  have := jl_neg_one (pf_odds hn); rw [pf_prod (by omega)] at this; exact this
theorem jac_none {m n : Nat} (hn : n % 2 = 1) (h : Nat.gcd m n ≠ 1) : jac (m : Int) n = 0 := by
  have hg : 1 ≤ Nat.gcd m n := Nat.gcd_pos_of_pos_right _ (by omega)
  have hne : pf (Nat.gcd m n) ≠ [] := by
    intro e
    have := pf_prod hg; rw [e] at this; simp at this; omega
  obtain ⟨p, t, ht⟩ := List.exists_cons_of_ne_nil hne
  have hp : p ∈ pf (Nat.gcd m n) := by rw [ht]; simp
  have hd : p ∣ Nat.gcd m n := by have := dvd_prod hp; rw [pf_prod hg] at this; exact this
  have hpp := pf_primes hg p hp
  have hm : p ∈ pf n := mem_of_dvd hpp (pf_primes (by omega)) (by rw [pf_prod (by omega)]; exact Nat.dvd_trans hd (Nat.gcd_dvd_right _ _))
  exact jl_zero (Int.natCast_dvd_natCast.2 (Nat.dvd_trans hd (Nat.gcd_dvd_left _ _))) (pf_odds hn) hm
/-- quadratic reciprocity -/
theorem jac_qr {m n : Nat} (hm : m % 2 = 1) (hn : n % 2 = 1) (h : Nat.gcd m n = 1) : jac (m : Int) n * jac (n : Int) m = rec4 m n := by
  have hdis : ∀ p ∈ pf n, p ∉ pf m := fun p h1 h2 => by
    have d1 := dvd_prod h1; have d2 := dvd_prod h2
    rw [pf_prod (by omega)] at d1 d2
    have := Nat.dvd_gcd d2 d1
    rw [h] at this
    have := Nat.le_of_dvd (by omega) this
    have := (pf_primes (n := n) (by omega) p h1).1
    omega
  have := qr (pf_odds hm) (pf_odds hn) hdis
  rw [pf_prod (by omega), pf_prod (by omega), rec4_comm] at this
  exact this
theorem rec4_sq (m n : Nat) : rec4 m n * rec4 m n = 1 := by unfold rec4; split <;> rfl
/-- the form that the algorithm uses -/
theorem jac_flip {m n : Nat} (hm : m % 2 = 1) (hn : n % 2 = 1) : jac (m : Int) n = rec4 m n * jac (n : Int) m := by
  by_cases h : Nat.gcd m n = 1
  · have := jac_qr hm hn h
    rcases jac_sgn (n : Int) m with e | e | e
    · rw [e] at this; simp at this
      unfold rec4 at this; split at this <;> simp at this
    · rw [e] at this; rw [← this]; grind
    · rw [e] at this; rw [← this]; grind
  · rw [jac_none hn h, jac_none hm (by rw [Nat.gcd_comm]; exact h)]; simp
theorem jac_zero {n : Nat} (hn : n % 2 = 1) (h : 1 < n) : jac 0 n = 0 := by
  have := jac_none (m := 0) hn (by simp; omega)
  exact this
/-- the twos are taken out -/
theorem jac_twos {n : Nat} (hn : n % 2 = 1) (r : Int) (k : Nat) : jac (r * 2 ^ k) n = (if k % 2 = 1 ∧ (n % 8 = 3 ∨ n % 8 = 5) then -1 else 1) * jac r n := by
  induction k with
  | zero => simp
  | succ k ih =>
    rw [Int.pow_succ, ← Int.mul_assoc, jac_mul hn, ih, jac_two hn]
    unfold chi8
    have h8 : n % 8 = 1 ∨ n % 8 = 3 ∨ n % 8 = 5 ∨ n % 8 = 7 := by omega
    rcases Nat.mod_two_eq_zero_or_one k with hk | hk
    · have hk' : (k + 1) % 2 = 1 := by omega
      rcases h8 with h | h | h | h <;> simp [hk, hk', h]
    · have hk' : (k + 1) % 2 = 0 := by omega
      rcases h8 with h | h | h | h <;> simp [hk, hk', h]
end Go.Proofs.Ytgbnmnkgelklbaa.Nt
