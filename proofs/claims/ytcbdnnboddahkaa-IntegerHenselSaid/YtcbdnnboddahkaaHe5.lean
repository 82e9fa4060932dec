/-
  Roots modulo a prime: a nonresidue exists; a step of Tonelli and Shanks. Plain mathematics.
-/
import Derived.Test.YtcbdnnboddahkaaHem
namespace Go.Proofs.Ytcbdnnboddahkaa.He
open Nt
set_option linter.unusedVariables false
def PD : Nat → Int → (Int → Int) → Prop
  | 0, c, f => ∀ x, f x = c
  | n + 1, c, f => PD n c (fun x => f (x + 1) - f x)
theorem PD.congr {n : Nat} : ∀ {c : Int} {f g : Int → Int}, (∀ x, f x = g x) → PD n c f → PD n c g := by
  intro c f g h hf
  have : f = g := funext h
  rw [← this]; exact hf
theorem PD.shift {n : Nat} : ∀ {c : Int} {f : Int → Int}, PD n c f → PD n c (fun x => f (x + 1)) := by
  induction n with
  | zero => intro c f h x; exact h _
  | succ n ih => intro c f h; exact ih (f := fun x => f (x + 1) - f x) h
theorem PD.add {n : Nat} : ∀ {c d : Int} {f g : Int → Int}, PD n c f → PD n d g → PD n (c + d) (fun x => f x + g x) := by
  induction n with
  | zero => intro c d f g h k x; show f x + g x = c + d; rw [h x, k x]
  | succ n ih =>
    intro c d f g h k
    show PD n (c + d) (fun x => f (x + 1) + g (x + 1) - (f x + g x))
    refine PD.congr (fun x => ?_) (ih (f := fun x => f (x + 1) - f x) (g := fun x => g (x + 1) - g x) h k)
    show f (x + 1) - f x + (g (x + 1) - g x) = f (x + 1) + g (x + 1) - (f x + g x)
    omega
theorem PD.times {n : Nat} : ∀ {c : Int} {f : Int → Int}, PD n c f → PD (n + 1) ((n + 1 : Nat) * c) (fun x => x * f x) := by
  induction n with
  | zero =>
    intro c f h
    show ∀ x, (x + 1) * f (x + 1) - x * f x = _
    intro x
    rw [h x, h (x + 1)]
    simp
    grind
  | succ n ih =>
    intro c f h
    have h1 := ih (f := fun x => f (x + 1) - f x) h
    have h2 : PD (n + 1) c (fun x => f (x + 1)) := PD.shift (n := n + 1) h
    have h3 := PD.add (n := n + 1) h1 h2
    have e : ((n + 1 : Nat) : Int) * c + c = ((n + 1 + 1 : Nat) : Int) * c := by
      have : ((n + 1 + 1 : Nat) : Int) = ((n + 1 : Nat) : Int) + 1 := by omega
      rw [this, Int.add_mul, Int.one_mul]
    rw [e] at h3
    show PD (n + 1) _ (fun x => (x + 1) * f (x + 1) - x * f x)
    refine PD.congr (n := n + 1) (fun x => ?_) h3
    show x * (f (x + 1) - f x) + f (x + 1) = (x + 1) * f (x + 1) - x * f x
    grind
theorem PD.pow {p : Nat} (hp : Pr p) (h : Nat) (hh : h < p) : ∃ c, PD h c (fun x => x ^ h) ∧ ¬ (p : Int) ∣ c := by
  induction h with
  | zero =>
    refine ⟨1, fun x => by simp, fun hd => ?_⟩
    have := Int.le_of_dvd (by omega) hd
    have := hp.1
    omega
  | succ h ih =>
    obtain ⟨c, h1, h2⟩ := ih (by omega)
    refine ⟨_, PD.congr (n := h + 1) (fun x => ?_) h1.times, fun hd => ?_⟩
    · show x * x ^ h = x ^ (h + 1)
      rw [Int.pow_succ, Int.mul_comm]
    · rcases hp.dvd_mul_int hd with h3 | h3
      · have := Int.le_of_dvd (by omega) h3
        omega
      · exact h2 h3
theorem PD.dvd {n : Nat} {p : Int} : ∀ {c : Int} {f : Int → Int}, PD n c f → (∀ x : Nat, 1 ≤ x → x ≤ n + 1 → p ∣ f x) → p ∣ c := by
  induction n with
  | zero => intro c f h hd; rw [← h ((1 : Nat) : Int)]; exact hd 1 (by omega) (by omega)
  | succ n ih =>
    intro c f h hd
    refine ih (f := fun x => f (x + 1) - f x) h fun x h1 h2 => ?_
    have e : ((x : Int) + 1) = ((x + 1 : Nat) : Int) := by omega
    show p ∣ f ((x : Int) + 1) - f x
    rw [e]
    exact Int.dvd_sub (hd _ (by omega) (by omega)) (hd _ h1 (by omega))
theorem nonres {p : Nat} (hp : Pr p) (ho : p % 2 = 1) : ∃ z : Nat, 2 ≤ z ∧ z < p ∧ leg (z : Int) p = -1 := by
  have h2 := hp.1
  refine Classical.byContradiction fun hn => ?_
  obtain ⟨m, hm⟩ : ∃ m, (p - 1) / 2 = m + 1 := ⟨(p - 1) / 2 - 1, by omega⟩
  have hall : ∀ z : Nat, 1 ≤ z → z ≤ p - 1 → (p : Int) ∣ (z : Int) ^ ((p - 1) / 2) - 1 := by
    intro z h3 h4
    have hz : ¬ (p : Int) ∣ (z : Int) := fun hd => by
      have := Int.le_of_dvd (by omega) hd
      omega
    have hs := leg_sq hp ho hz
    have hc := leg_cong hp ho (z : Int)
    have h1 : leg (z : Int) p = 1 := by
      rcases leg_sgn (z : Int) p with h | h | h
      · rw [h] at hs; omega
      · exact h
      · rcases Nat.lt_or_ge z 2 with h5 | h5
        · have : z = 1 := by omega
          subst this
          exact leg_one hp
        · exact absurd ⟨z, h5, by omega, h⟩ hn
    rw [h1] at hc; exact hc
  obtain ⟨c, h1, h3⟩ := PD.pow hp ((p - 1) / 2) (by omega)
  rw [hm] at h1 hall
  refine h3 (PD.dvd (n := m + 1) (f := fun x => x ^ (m + 1) - 1) (PD.congr (n := m) (fun x => ?_) h1) fun x h4 h5 => hall x h4 (by omega))
  show (x + 1) ^ (m + 1) - x ^ (m + 1) = (x + 1) ^ (m + 1) - 1 - (x ^ (m + 1) - 1)
  omega
def E (p u v : Int) : Prop := u % p = v % p
theorem E.mul {p a b c d : Int} (h : E p a b) (k : E p c d) : E p (a * c) (b * d) := by
  unfold E at *; rw [Int.mul_emod, h, k, ← Int.mul_emod]
theorem E.pow {p a b : Int} (h : E p a b) (n : Nat) : E p (a ^ n) (b ^ n) := by
  unfold E at *; rw [← pow_emod, h, pow_emod]
theorem E.symm {p a b : Int} (h : E p a b) : E p b a := Eq.symm h
theorem E.trans {p a b c : Int} (h : E p a b) (k : E p b c) : E p a c := Eq.trans h k
theorem E.refl (p a : Int) : E p a a := rfl
theorem E.mod (p a : Int) : E p (a % p) a := Int.emod_emod_of_dvd a (Int.dvd_refl p)
theorem E.dvd {p a b : Int} : E p a b ↔ p ∣ a - b := ⟨fun h => Int.dvd_of_emod_eq_zero (Int.emod_eq_emod_iff_emod_sub_eq_zero.1 h), fun h => Int.emod_eq_emod_iff_emod_sub_eq_zero.2 (Int.emod_eq_zero_of_dvd h)⟩
/-- the state of Tonelli's and Shanks' algorithm: 2^(S+1) is what is left of the order of c -/
def TI (p a : Int) (S : Nat) (x b c : Int) : Prop := E p (x * x) (a * b) ∧ E p (b ^ 2 ^ S) 1 ∧ E p (c ^ 2 ^ S) (-1)
theorem E.sq_one {p : Nat} (hp : Pr p) {u : Int} (h : E p (u * u) 1) (h1 : ¬ E p u 1) : E p u (-1) := by
  rw [E.dvd] at *
  have e : u * u - 1 = (u - 1) * (u - -1) := by grind
  rw [e] at h
  rcases hp.dvd_mul_int h with h2 | h2
  · exact absurd h2 h1
  · exact h2
theorem TI.step {p : Nat} {a x b c y : Int} {S k : Nat} (hp : Pr p) (h : TI p a S x b c) (hk : k + 1 ≤ S) (h1 : E p (b ^ 2 ^ (k + 1)) 1) (h2 : ¬ E p (b ^ 2 ^ k) 1) (hy : E p y (c ^ 2 ^ (S - (k + 1)))) :
    TI p a k (x * y) (b * (y * y)) (y * y) := by
  obtain ⟨i1, i2, i3⟩ := h
  have hyy : E p ((y * y) ^ 2 ^ k) (-1) := by
    have e1 : E p (y * y) (c ^ 2 ^ (S - k)) := by
      refine (hy.mul hy).trans ?_
      rw [← Int.pow_add]
      have : 2 ^ (S - (k + 1)) + 2 ^ (S - (k + 1)) = 2 ^ (S - k) := by
        have : S - k = S - (k + 1) + 1 := by omega
        rw [this, Nat.pow_succ]; omega
      rw [this]; exact E.refl _ _
    refine (e1.pow _).trans ?_
    rw [← Int.pow_mul, ← Nat.pow_add]
    have : S - k + k = S := by omega
    rw [this]; exact i3
  have hb : E p (b ^ 2 ^ k) (-1) := by
    refine E.sq_one hp ?_ h2
    rw [← Int.pow_add]
    have : 2 ^ k + 2 ^ k = 2 ^ (k + 1) := by rw [Nat.pow_succ]; omega
    rw [this]; exact h1
  refine ⟨?_, ?_, hyy⟩
  · have e1 : x * y * (x * y) = x * x * (y * y) := by grind
    have e2 : a * (b * (y * y)) = a * b * (y * y) := by grind
    rw [e1, e2]
    exact i1.mul (E.refl _ _)
  · rw [Int.mul_pow]
    exact hb.mul hyy
end Go.Proofs.Ytcbdnnboddahkaa.He
