/-
  Square roots modulo prime powers: lifts. Plain mathematics.
  Roots modulo a prime: a nonresidue exists; a step of Tonelli and Shanks. Plain mathematics.
  WALKS: prime powers, in both packages.
  WALKS: roots lifted, in both packages.
  WALKS: Lift of both packages.
  WALKS: powers of a prime; a root modulo a prime.
  Lists of roots: sorted in place; the two roots of a unit modulo a power of an odd prime.
  WALKS: the roots of a unit modulo a power of an odd prime.
  WALKS: the roots of an odd number modulo a power of 2.
  WALK: the roots of an odd number modulo a power of 2.
  The roots modulo a power of a prime out of the roots of a unit. Plain mathematics.
  WALK: the first roots modulo a power of a prime.
  WALK: Roots.
-/
import Derived.Test.YtgbnmnkgelklbaaNt
import Derived.Test.YtgbnmnkgelklbaaWPrime
import Derived.Test.YtgbnmnkgelklbaaBezQ
import Derived.Deep.LoopGhost
import Derived.Test.YtgbnmnkgelklbaaWJac
import Derived.Test.YtgbnmnkgelklbaaPower
import Derived.IntWalk
import Derived.Test.YtgbnmnkgelklbaaShelfSort
import Derived.Test.YtgbnmnkgelklbaaMem
import Derived.Sort.OwnSortedInts
import Derived.Below
import Derived.Test.YtgbnmnkgelklbaaRtrim
namespace Go.Proofs.Ytgbnmnkgelklbaa.He
open Nt
set_option linter.unusedVariables false
theorem pr_cop {p a : Int} (hp : Pr p.toNat) (h0 : 0 ≤ p) (h : ¬ p ∣ a) : Int.gcd a p = 1 := by
  have h1 : ¬ p.toNat ∣ a.natAbs := fun hd => h (by
    have h2 : (p.toNat : Int) ∣ (a.natAbs : Int) := Int.natCast_dvd_natCast.2 hd
    rw [Int.toNat_of_nonneg h0] at h2
    exact Int.dvd_natAbs.1 h2)
  have h2 := hp.coprime h1
  unfold Int.gcd
  have : p.natAbs = p.toNat := by omega
  rw [this, Nat.gcd_comm]
  exact h2
theorem cop_cancel {a m x : Int} (hg : Int.gcd a m = 1) (h : m ∣ a * x) : m ∣ x := by
  have h1 : m.natAbs ∣ a.natAbs * x.natAbs := by rw [← Int.natAbs_mul]; exact Int.natAbs_dvd_natAbs.2 h
  have h2 : Nat.Coprime m.natAbs a.natAbs := by unfold Nat.Coprime; rw [Nat.gcd_comm]; exact hg
  exact Int.natAbs_dvd_natAbs.1 (h2.dvd_of_dvd_mul_left h1)
theorem cop_pow {a p : Int} (hg : Int.gcd a p = 1) (k : Nat) : Int.gcd a (p ^ k) = 1 := by
  unfold Int.gcd at *
  rw [Int.natAbs_pow]
  exact Nat.Coprime.pow_right k hg
/-- two roots over one residue that p does not divide are one -/
theorem root_unique {p a x y : Int} {k : Nat} (hp : Pr p.toNat) (h3 : 3 ≤ p) (h1 : 1 ≤ k) (hx : p ^ k ∣ x * x - a) (hy : p ^ k ∣ y * y - a) (hxy : p ∣ x - y) (hnz : ¬ p ∣ x) : p ^ k ∣ x - y := by
  have hd := Int.dvd_sub hx hy
  have e : x * x - a - (y * y - a) = (x + y) * (x - y) := by grind
  rw [e] at hd
  have hs : ¬ p ∣ x + y := fun h => by
    have h2 := Int.dvd_add h hxy
    have e2 : x + y + (x - y) = 2 * x := by omega
    rw [e2] at h2
    have h2' : (p.toNat : Int) ∣ 2 * x := by rw [Int.toNat_of_nonneg (by omega)]; exact h2
    rcases hp.dvd_mul_int h2' with h4 | h4
    · rw [Int.toNat_of_nonneg (by omega)] at h4
      have := Int.le_of_dvd (by omega) h4
      omega
    · rw [Int.toNat_of_nonneg (by omega)] at h4
      exact hnz h4
  exact cop_cancel (cop_pow (pr_cop hp (by omega) hs) k) hd
/-- one of Newton's steps doubles the power of p that divides x^2 - a -/
theorem newton_step {x a i d : Int} (hi : d ∣ 2 * x * i - 1) (hd : d ∣ x * x - a) : d * d ∣ (x - (x * x - a) * i) * (x - (x * x - a) * i) - a := by
  obtain ⟨u, hu⟩ := hd
  obtain ⟨v, hv⟩ := hi
  have e : (x - (x * x - a) * i) * (x - (x * x - a) * i) - a = (x * x - a) * (1 - 2 * x * i) + (x * x - a) * (x * x - a) * i * i := by grind
  rw [e, hu]
  refine ⟨-(u * v) + u * u * i * i, ?_⟩
  have e2 : 1 - 2 * x * i = -(d * v) := by omega
  rw [e2]; grind
end Go.Proofs.Ytgbnmnkgelklbaa.He
namespace Go.Proofs.Ytgbnmnkgelklbaa.He
open Nt
set_option linter.unusedVariables false
def PD : Nat → Int → (Int → Int) → Prop
  | 0, c, f => ∀ x, f x = c
  | n + 1, c, f => PD n c (fun x => f (x + 1) - f x)
theorem PD.congr {n : Nat} : ∀ {c : Int} {f g : Int → Int}, (∀ x, f x = g x) → PD n c f → PD n c g := by
  intro c f g h hf
  have : f = g := funext h
  rw [← this]; exact hf
theorem PD.shift {n : Nat} : ∀ {c : Int} {f : Int → Int}, PD n c f → PD n c (fun x => f (x + 1)) := by
  induction n with
  | zero => intro c f h x; exact h _
  | succ n ih => intro c f h; exact ih (f := fun x => f (x + 1) - f x) h
theorem PD.add {n : Nat} : ∀ {c d : Int} {f g : Int → Int}, PD n c f → PD n d g → PD n (c + d) (fun x => f x + g x) := by
  induction n with
  | zero => intro c d f g h k x; show f x + g x = c + d; rw [h x, k x]
  | succ n ih =>
    intro c d f g h k
    show PD n (c + d) (fun x => f (x + 1) + g (x + 1) - (f x + g x))
    refine PD.congr (fun x => ?_) (ih (f := fun x => f (x + 1) - f x) (g := fun x => g (x + 1) - g x) h k)
    show f (x + 1) - f x + (g (x + 1) - g x) = f (x + 1) + g (x + 1) - (f x + g x)
    omega
theorem PD.times {n : Nat} : ∀ {c : Int} {f : Int → Int}, PD n c f → PD (n + 1) ((n + 1 : Nat) * c) (fun x => x * f x) := by
  induction n with
  | zero =>
    intro c f h
    show ∀ x, (x + 1) * f (x + 1) - x * f x = _
    intro x
    rw [h x, h (x + 1)]
    simp
    grind
  | succ n ih =>
    intro c f h
    have h1 := ih (f := fun x => f (x + 1) - f x) h
    have h2 : PD (n + 1) c (fun x => f (x + 1)) := PD.shift (n := n + 1) h
    have h3 := PD.add (n := n + 1) h1 h2
    have e : ((n + 1 : Nat) : Int) * c + c = ((n + 1 + 1 : Nat) : Int) * c := by
      have : ((n + 1 + 1 : Nat) : Int) = ((n + 1 : Nat) : Int) + 1 := by omega
      rw [this, Int.add_mul, Int.one_mul]
    rw [e] at h3
    show PD (n + 1) _ (fun x => (x + 1) * f (x + 1) - x * f x)
    refine PD.congr (n := n + 1) (fun x => ?_) h3
    show x * (f (x + 1) - f x) + f (x + 1) = (x + 1) * f (x + 1) - x * f x
    grind
theorem PD.pow {p : Nat} (hp : Pr p) (h : Nat) (hh : h < p) : ∃ c, PD h c (fun x => x ^ h) ∧ ¬ (p : Int) ∣ c := by
  induction h with
  | zero =>
    refine ⟨1, fun x => by simp, fun hd => ?_⟩
    have := Int.le_of_dvd (by omega) hd
    have := hp.1
    omega
  | succ h ih =>
    obtain ⟨c, h1, h2⟩ := ih (by omega)
    refine ⟨_, PD.congr (n := h + 1) (fun x => ?_) h1.times, fun hd => ?_⟩
    · show x * x ^ h = x ^ (h + 1)
      rw [Int.pow_succ, Int.mul_comm]
    · rcases hp.dvd_mul_int hd with h3 | h3
      · have := Int.le_of_dvd (by omega) h3
        omega
      · exact h2 h3
theorem PD.dvd {n : Nat} {p : Int} : ∀ {c : Int} {f : Int → Int}, PD n c f → (∀ x : Nat, 1 ≤ x → x ≤ n + 1 → p ∣ f x) → p ∣ c := by
  induction n with
  | zero => intro c f h hd; rw [← h ((1 : Nat) : Int)]; exact hd 1 (by omega) (by omega)
  | succ n ih =>
    intro c f h hd
    refine ih (f := fun x => f (x + 1) - f x) h fun x h1 h2 => ?_
    have e : ((x : Int) + 1) = ((x + 1 : Nat) : Int) := by omega
    show p ∣ f ((x : Int) + 1) - f x
    rw [e]
    exact Int.dvd_sub (hd _ (by omega) (by omega)) (hd _ h1 (by omega))
theorem nonres {p : Nat} (hp : Pr p) (ho : p % 2 = 1) : ∃ z : Nat, 2 ≤ z ∧ z < p ∧ leg (z : Int) p = -1 := by
  have h2 := hp.1
  refine Classical.byContradiction fun hn => ?_
  obtain ⟨m, hm⟩ : ∃ m, (p - 1) / 2 = m + 1 := ⟨(p - 1) / 2 - 1, by omega⟩
  have hall : ∀ z : Nat, 1 ≤ z → z ≤ p - 1 → (p : Int) ∣ (z : Int) ^ ((p - 1) / 2) - 1 := by
    intro z h3 h4
    have hz : ¬ (p : Int) ∣ (z : Int) := fun hd => by
      have := Int.le_of_dvd (by omega) hd
      omega
    have hs := leg_sq hp ho hz
    have hc := leg_cong hp ho (z : Int)
    have h1 : leg (z : Int) p = 1 := by
      rcases leg_sgn (z : Int) p with h | h | h
      · rw [h] at hs; omega
      · exact h
      · rcases Nat.lt_or_ge z 2 with h5 | h5
        · have : z = 1 := by omega
          subst this
          exact leg_one hp
        · exact absurd ⟨z, h5, by omega, h⟩ hn
    rw [h1] at hc; exact hc
  obtain ⟨c, h1, h3⟩ := PD.pow hp ((p - 1) / 2) (by omega)
  rw [hm] at h1 hall
  refine h3 (PD.dvd (n := m + 1) (f := fun x => x ^ (m + 1) - 1) (PD.congr (n := m) (fun x => ?_) h1) fun x h4 h5 => hall x h4 (by omega))
  show (x + 1) ^ (m + 1) - x ^ (m + 1) = (x + 1) ^ (m + 1) - 1 - (x ^ (m + 1) - 1)
  omega
def E (p u v : Int) : Prop := u % p = v % p
theorem E.mul {p a b c d : Int} (h : E p a b) (k : E p c d) : E p (a * c) (b * d) := by
  unfold E at *; rw [Int.mul_emod, h, k, ← Int.mul_emod]
theorem E.pow {p a b : Int} (h : E p a b) (n : Nat) : E p (a ^ n) (b ^ n) := by
  unfold E at *; rw [← pow_emod, h, pow_emod]
theorem E.symm {p a b : Int} (h : E p a b) : E p b a := Eq.symm h
theorem E.trans {p a b c : Int} (h : E p a b) (k : E p b c) : E p a c := Eq.trans h k
theorem E.refl (p a : Int) : E p a a := rfl
theorem E.mod (p a : Int) : E p (a % p) a := Int.emod_emod_of_dvd a (Int.dvd_refl p)
theorem E.dvd {p a b : Int} : E p a b ↔ p ∣ a - b := ⟨fun h => Int.dvd_of_emod_eq_zero (Int.emod_eq_emod_iff_emod_sub_eq_zero.1 h), fun h => Int.emod_eq_emod_iff_emod_sub_eq_zero.2 (Int.emod_eq_zero_of_dvd h)⟩
/-- the state of Tonelli's and Shanks' algorithm: 2^(S+1) is what is left of the order of c -/
def TI (p a : Int) (S : Nat) (x b c : Int) : Prop := E p (x * x) (a * b) ∧ E p (b ^ 2 ^ S) 1 ∧ E p (c ^ 2 ^ S) (-1)
theorem E.sq_one {p : Nat} (hp : Pr p) {u : Int} (h : E p (u * u) 1) (h1 : ¬ E p u 1) : E p u (-1) := by
  rw [E.dvd] at *
  have e : u * u - 1 = (u - 1) * (u - -1) := by grind
  rw [e] at h
  rcases hp.dvd_mul_int h with h2 | h2
  · exact absurd h2 h1
  · exact h2
theorem TI.step {p : Nat} {a x b c y : Int} {S k : Nat} (hp : Pr p) (h : TI p a S x b c) (hk : k + 1 ≤ S) (h1 : E p (b ^ 2 ^ (k + 1)) 1) (h2 : ¬ E p (b ^ 2 ^ k) 1) (hy : E p y (c ^ 2 ^ (S - (k + 1)))) :
    TI p a k (x * y) (b * (y * y)) (y * y) := by
  obtain ⟨i1, i2, i3⟩ := h
  have hyy : E p ((y * y) ^ 2 ^ k) (-1) := by
    have e1 : E p (y * y) (c ^ 2 ^ (S - k)) := by
      refine (hy.mul hy).trans ?_
      rw [← Int.pow_add]
      have : 2 ^ (S - (k + 1)) + 2 ^ (S - (k + 1)) = 2 ^ (S - k) := by
        have : S - k = S - (k + 1) + 1 := by omega
        rw [this, Nat.pow_succ]; omega
      rw [this]; exact E.refl _ _
    refine (e1.pow _).trans ?_
    rw [← Int.pow_mul, ← Nat.pow_add]
    have : S - k + k = S := by omega
    rw [this]; exact i3
  have hb : E p (b ^ 2 ^ k) (-1) := by
    refine E.sq_one hp ?_ h2
    rw [← Int.pow_add]
    have : 2 ^ k + 2 ^ k = 2 ^ (k + 1) := by rw [Nat.pow_succ]; omega
    rw [this]; exact h1
  refine ⟨?_, ?_, hyy⟩
  · have e1 : x * y * (x * y) = x * x * (y * y) := by grind
    have e2 : a * (b * (y * y)) = a * b * (y * y) := by grind
    rw [e1, e2]
    exact i1.mul (E.refl _ _)
  · rw [Int.mul_pow]
    exact hb.mul hyy
end Go.Proofs.Ytgbnmnkgelklbaa.He
namespace Go.Proofs.Ytgbnmnkgelklbaa.He
open Nt
open Go.RowKit
set_option linter.unusedVariables false
set_option maxRecDepth 100000
noncomputable def ppE (p k : Int) : Int := if prB p = true then (if k < 1 then 2 else if p ^ k.toNat ≤ 1000000000 then 0 else 2) else 11
noncomputable def ppQ (p k : Int) : Int := if ppE p k = 0 then p ^ k.toNat else 0
theorem pow_mono {p : Int} {i j : Nat} (hp : 1 ≤ p) (h : i ≤ j) : p ^ i ≤ p ^ j := by
  obtain ⟨d, rfl⟩ := Nat.exists_eq_add_of_le h
  induction d with
  | zero => exact Int.le_refl _
  | succ d ih =>
    have h1 := ih (by omega)
    have h2 : 0 ≤ p ^ (i + d) := Int.pow_nonneg (by omega)
    rw [show i + (d + 1) = i + d + 1 from by omega, Int.pow_succ]
    have h3 : p ^ (i + d) * 1 ≤ p ^ (i + d) * p := Int.mul_le_mul_of_nonneg_left (by omega) h2
    omega
theorem pp_ok {p k : Int} (h : ppE p k = 0) : 2 ≤ p ∧ p ≤ 1000000000 ∧ Pr p.toNat ∧ 1 ≤ k ∧ p ^ k.toNat ≤ 1000000000 ∧ ppQ p k = p ^ k.toNat := by
  have hq : ppQ p k = p ^ k.toNat := by unfold ppQ; rw [if_pos h]
  unfold ppE at h
  split at h
  · rename_i hp
    obtain ⟨h1, h2, h3⟩ := prB_of hp
    split at h
    · omega
    · split at h
      · exact ⟨h1, h2, h3, by omega, by assumption, hq⟩
      · omega
  · omega
set_option maxHeartbeats 1000000 in
theorem pp_any (p k : Int) (w : World) (hk0 : -9223372036854775808 ≤ k) (hk2 : k ≤ 9223372036854775807) :
    Calls Try.prog 74 #[.int .i64 p, .int .i64 k] w fun e w' => e = .returned (.tuple #[.int .i64 (ppQ p k), .int .i64 (ppE p k)]) ∧ w = w' := by
  cases hp : prB p with
  | false =>
    have HE : Hid (ppE p k = 11) := Lib.hid (by unfold ppE; rw [hp]; rfl)
    have HQ : Hid (ppQ p k = 0) := Lib.hid (by unfold ppQ; rw [HE.out]; rfl)
    go_enter Try.func74, Try.ntmps74
    go_wp2_with (go_at_call 10; refine (isPrime_any p _).mono ?_; rw [hp]; rintro e w2 ⟨rfl, rfl⟩)
    go_ret2
    exact ⟨by rw [HE.out, HQ.out]; rfl, rfl⟩
  | true =>
    obtain ⟨hp2, hpm, hpr⟩ := prB_of hp
    by_cases hk : k < 1
    · have HE : Hid (ppE p k = 2) := Lib.hid (by unfold ppE; rw [hp, if_pos rfl, if_pos hk])
      have HQ : Hid (ppQ p k = 0) := Lib.hid (by unfold ppQ; rw [HE.out]; rfl)
      clear hpr
      go_enter Try.func74, Try.ntmps74
      go_wp2_with (go_at_call 10; refine (isPrime_any p _).mono ?_; rw [hp]; rintro e w2 ⟨rfl, rfl⟩)
      go_ret2
      exact ⟨by rw [HE.out, HQ.out]; rfl, rfl⟩
    · have HPR := Lib.hid hp
      clear hpr
      go_enter Try.func74, Try.ntmps74
      go_wp2_with (go_at_call 10; refine (isPrime_any p _).mono ?_; rw [hp]; rintro e w2 ⟨rfl, rfl⟩)
      clear hp
      go_loop [6, 13] (fun t6 t13 => ∃ (i : Nat) (Q : Int), ((i : Int) ≤ k ∧ Q = p ^ i ∧ 1 ≤ Q ∧ Q ≤ 1000000000) ∧ t6 = .int .i64 Q ∧ t13 = .int .i64 i) (fun _ t => k.toNat - (intOf t).toNat)
      case atStart => exact ⟨0, 1, ⟨by omega, by simp, by omega, by omega⟩, rfl, rfl⟩
      case round =>
        obtain ⟨i, Q, ⟨hi, hQ, hQ1, hQ2⟩, rfl, rfl⟩ := hrel
        have HQP := Lib.hid hQ
        have hm1 : 0 ≤ Q * p := Int.mul_nonneg (by omega) (by omega)
        have hm2 : Q * p ≤ 1000000000 * 1000000000 := Int.mul_le_mul hQ2 hpm (by omega) (by omega)
        have hm3 : 1 ≤ Q * p := by have := Int.mul_le_mul hQ1 (show 1 ≤ p by omega) (by omega) (by omega); omega
        clear hQ
        by_cases hlt : (i : Int) < k
        · by_cases hbig : 1000000000 < Q * p
          · have HE : Hid (ppE p k = 2) := Lib.hid (by
              unfold ppE
              rw [HPR.out, if_pos rfl, if_neg (show ¬ k < 1 by omega), if_neg]
              have h1 : p ^ (i + 1) ≤ p ^ k.toNat := pow_mono (by omega) (by omega)
              rw [Int.pow_succ, ← HQP.out] at h1
              omega)
            have HQ : Hid (ppQ p k = 0) := Lib.hid (by unfold ppQ; rw [HE.out]; rfl)
            go_wp2
            go_ret2
            exact ⟨by rw [HE.out, HQ.out]; rfl, rfl⟩
          · have HN : Hid (Q * p = p ^ (i + 1)) := Lib.hid (by rw [Int.pow_succ, ← HQP.out])
            go_wp2
            go_round
            case rel => exact ⟨i + 1, Q * p, ⟨by omega, HN.out, hm3, by omega⟩, rfl, by go_num⟩
            case measure => simp [intOf]; omega
        · have hik : i = k.toNat := by omega
          have HE : Hid (ppE p k = 0) := Lib.hid (by unfold ppE; rw [HPR.out, if_pos rfl, if_neg (show ¬ k < 1 by omega), if_pos (by rw [← hik, ← HQP.out]; omega)])
          have HQ : Hid (ppQ p k = Q) := Lib.hid (by unfold ppQ; rw [HE.out, if_pos rfl, ← hik, ← HQP.out])
          clear hik
          go_wp2
          go_ret2
          exact ⟨by rw [HE.out, HQ.out]; rfl, rfl⟩
end Go.Proofs.Ytgbnmnkgelklbaa.He
namespace Go.Proofs.Ytgbnmnkgelklbaa.He
open Nt
open Go.RowKit
set_option linter.unusedVariables false
set_option maxRecDepth 100000
/-- X is the root of a modulo p^k over the residue r -/
def LX (p a r : Int) (k : Nat) (X : Int) : Prop := 0 ≤ X ∧ X < p ^ k ∧ p ^ k ∣ X * X - a ∧ p ∣ X - r
theorem LX.unique {p a r X Y : Int} {k : Nat} (hp : Pr p.toNat) (h3 : 3 ≤ p) (h1 : 1 ≤ k) (hr : ¬ p ∣ r) (h : LX p a r k X) (h' : LX p a r k Y) : X = Y := by
  have hxy : p ∣ X - Y := by
    have := Int.dvd_sub h.2.2.2 h'.2.2.2
    have e : X - r - (Y - r) = X - Y := by omega
    rw [e] at this; exact this
  have hnz : ¬ p ∣ X := fun hd => hr (by
    have := Int.dvd_sub hd h.2.2.2
    have e : X - (X - r) = r := by omega
    rw [e] at this; exact this)
  have hd := root_unique hp h3 h1 h.2.2.1 h'.2.2.1 hxy hnz
  have hX := h.1; have hX2 := h.2.1; have hY := h'.1; have hY2 := h'.2.1
  obtain ⟨c, hc⟩ := hd
  rcases Int.lt_trichotomy c 0 with h0 | h0 | h0
  · have : p ^ k * c ≤ p ^ k * (-1) := Int.mul_le_mul_of_nonneg_left (by omega) (by omega)
    omega
  · subst h0; simp at hc; omega
  · have : p ^ k * 1 ≤ p ^ k * c := Int.mul_le_mul_of_nonneg_left (by omega) (by omega)
    omega
theorem p_dvd_pow {p : Int} {k : Nat} (h1 : 1 ≤ k) : p ∣ p ^ k := by
  obtain ⟨m, rfl⟩ : ∃ m, k = m + 1 := ⟨k - 1, by omega⟩
  rw [Int.pow_succ]; exact Int.dvd_mul_left _ _
theorem pow_dvd {p : Int} {i j : Nat} (h : i ≤ j) : p ^ i ∣ p ^ j := by
  obtain ⟨d, rfl⟩ := Nat.exists_eq_add_of_le h
  rw [Int.pow_add]; exact Int.dvd_mul_right _ _
theorem dvd_emod_iff {p q z : Int} (h : p ∣ q) : p ∣ z % q ↔ p ∣ z := by
  have e := Int.mul_ediv_add_emod z q
  constructor
  · intro h1
    rw [← e]; exact Int.dvd_add (Int.dvd_mul_of_dvd_left h) h1
  · intro h1
    have : z % q = z - q * (z / q) := by omega
    rw [this]; exact Int.dvd_sub h1 (Int.dvd_mul_of_dvd_left h)
/-- the state of Newton's steps: p^j divides x^2 - a -/
def NI (p a r : Int) (k j : Nat) (x : Int) : Prop := 1 ≤ j ∧ j ≤ k ∧ 0 ≤ x ∧ x < p ^ k ∧ p ^ j ∣ x * x - a ∧ p ∣ x - r
theorem NI.step {p a r x i e c : Int} {k j : Nat} (hp : 2 ≤ p) (h : NI p a r k j x) (hi : p ^ k ∣ (2 * x % p ^ k) * i - 1) (he : e = (x * x - a) % p ^ k) (hc : c = i % p ^ k) (hj : j < k) : ∃ m, m ≤ k ∧ j < m ∧ NI p a r k m ((x - e * c) % p ^ k) := by
  obtain ⟨h1, h2, h3, h4, h5, h6⟩ := h
  have hq : 0 < p ^ k := Int.pow_pos (by omega)
  have hi2 : p ^ k ∣ 2 * x * i - 1 := by
    have h7 : p ^ k ∣ 2 * x * i - (2 * x % p ^ k) * i := by
      rw [← Int.sub_mul]
      have : 2 * x - 2 * x % p ^ k = p ^ k * (2 * x / p ^ k) := by have := Int.mul_ediv_add_emod (2 * x) (p ^ k); omega
      rw [this, Int.mul_assoc]; exact Int.dvd_mul_right _ _
    have := Int.dvd_add h7 hi
    have e1 : 2 * x * i - 2 * x % p ^ k * i + (2 * x % p ^ k * i - 1) = 2 * x * i - 1 := by omega
    rw [e1] at this; exact this
  obtain ⟨m, hm⟩ : ∃ m, m = min (j + j) k := ⟨_, rfl⟩
  have hmk : m ≤ k := by omega
  have hjm : j < m := by omega
  have hstep := newton_step (i := i) (Int.dvd_trans (pow_dvd (Nat.le_of_lt hj)) hi2) h5
  have hxx : p ^ k ∣ (x - e * c) % p ^ k - (x - (x * x - a) * i) := by
    have h8 : p ^ k ∣ (x - e * c) % p ^ k - (x - e * c) := by
      have : (x - e * c) % p ^ k - (x - e * c) = p ^ k * (-((x - e * c) / p ^ k)) := by have := Int.mul_ediv_add_emod (x - e * c) (p ^ k); rw [Int.mul_neg]; omega
      rw [this]; exact Int.dvd_mul_right _ _
    have h9 : p ^ k ∣ (x * x - a) * i - e * c := by
      have a1 : x * x - a = p ^ k * ((x * x - a) / p ^ k) + e := by have := Int.mul_ediv_add_emod (x * x - a) (p ^ k); omega
      have a2 : i = p ^ k * (i / p ^ k) + c := by have := Int.mul_ediv_add_emod i (p ^ k); omega
      generalize (x * x - a) / p ^ k = u at *
      generalize i / p ^ k = v at *
      generalize p ^ k = q at *
      refine ⟨u * i + e * v, ?_⟩
      have : (x * x - a) * i - e * c = (q * u + e) * i - e * c := by rw [← a1]
      rw [this]
      have e3 : e * i = e * (q * v + c) := by rw [← a2]
      have e4 : (q * u + e) * i - e * c = q * u * i + e * i - e * c := by grind
      rw [e4, e3]; grind
    have := Int.dvd_add h8 h9
    have e5 : (x - e * c) % p ^ k - (x - e * c) + ((x * x - a) * i - e * c) = (x - e * c) % p ^ k - (x - (x * x - a) * i) := by omega
    rw [e5] at this; exact this
  obtain ⟨y, hy⟩ : ∃ y, (x - e * c) % p ^ k = y := ⟨_, rfl⟩
  rw [hy] at hxx ⊢
  have hy0 : 0 ≤ y := by rw [← hy]; exact Int.emod_nonneg _ (by omega)
  have hy1 : y < p ^ k := by rw [← hy]; exact Int.emod_lt_of_pos _ hq
  refine ⟨m, hmk, hjm, by omega, hmk, hy0, hy1, ?_, ?_⟩
  · generalize x - (x * x - a) * i = z at *
    have k1 : p ^ m ∣ z * z - a := by
      refine Int.dvd_trans ?_ hstep
      rw [← Int.pow_add]
      exact pow_dvd (by omega)
    have k2 : p ^ m ∣ y * y - z * z := by
      have : y * y - z * z = (y - z) * (y + z) := by grind
      rw [this]
      exact Int.dvd_mul_of_dvd_left (Int.dvd_trans (pow_dvd hmk) hxx)
    have := Int.dvd_add k2 k1
    have e6 : y * y - z * z + (z * z - a) = y * y - a := by omega
    rw [e6] at this; exact this
  · have k3 : p ∣ y - (x - (x * x - a) * i) := Int.dvd_trans (p_dvd_pow (by omega)) hxx
    have k4 : p ∣ (x * x - a) * i := Int.dvd_mul_of_dvd_left (Int.dvd_trans (p_dvd_pow h1) h5)
    have := Int.dvd_sub (Int.dvd_add k3 h6) k4
    have e7 : y - (x - (x * x - a) * i) + (x - r) - (x * x - a) * i = y - r := by omega
    rw [e7] at this; exact this
set_option maxHeartbeats 1000000 in
theorem lift_any (p a r x : Int) (k : Nat) (w : World) (hp : Pr p.toNat) (h3 : 3 ≤ p) (hk : 1 ≤ k) (hq : p ^ k ≤ 1000000000) (ha : 0 ≤ a) (ha2 : a < p ^ k) (hr : ¬ p ∣ r) (hx0 : 0 ≤ x) (hx1 : x < p ^ k) (hx : p ∣ x * x - a) (hxr : p ∣ x - r) :
    Calls Try.prog 80 #[.int .i64 a, .int .i64 (p ^ k), .int .i64 x] w fun e w' => (∃ X, LX p a r k X ∧ e = .returned (.int .i64 X)) ∧ w = w' := by
  have hq0 : 1 ≤ p ^ k := by have : 0 < p ^ k := Int.pow_pos (by omega); omega
  have hst : NI p a r k 1 x := ⟨Nat.le_refl _, hk, hx0, hx1, by rw [Int.pow_one]; exact hx, hxr⟩
  have HST := Lib.hid hst
  have HP := Lib.hid hp
  have HR := Lib.hid hr
  obtain ⟨q, hqq⟩ : ∃ q, p ^ k = q := ⟨_, rfl⟩
  have HQ := Lib.hid hqq
  rw [hqq] at hq hq0 ha2 hx1 ⊢
  clear hst hp hr hx hxr hqq
  go_enter Try.func80, Try.ntmps80
  go_wp2
  go_loopg [2, 7, 8] k (fun gg t2 _ _ wr => ∃ (j : Nat) (x : Int), (NI p a r k j x ∧ k - j ≤ gg ∧ wr = w) ∧ t2 = .int .i64 x)
  case atStart => exact ⟨1, x, ⟨HST.out, by omega, rfl⟩, rfl⟩
  case round =>
    obtain ⟨j, y, ⟨hn, hg, hw⟩, rfl⟩ := hrel
    subst hw
    obtain ⟨n1, n2, n3, n4, n5, n6⟩ := id hn
    rw [HQ.out] at n4
    have HN := Lib.hid hn
    have hyy : 0 ≤ y * y ∧ y * y ≤ 1000000000 * 1000000000 := ⟨Int.mul_nonneg n3 n3, Int.mul_le_mul (by omega) (by omega) n3 (by omega)⟩
    obtain ⟨hyy1, hyy2⟩ := hyy
    have HN5 := Lib.hid n5
    have HN6 := Lib.hid n6
    clear hn n5 n6
    have he1 := Int.emod_nonneg (y * y - a) (b := q) (by omega)
    have he2 := Int.emod_lt_of_pos (y * y - a) (b := q) (by omega)
    by_cases hz : (y * y - a) % q = 0
    · have hzb : (((y * y - a) % q : Int) != 0) = false := by rw [hz]; rfl
      have HL : Hid (LX p a r k y) := Lib.hid ⟨n3, by rw [HQ.out]; exact n4, by rw [HQ.out]; exact Int.dvd_of_emod_eq_zero hz, HN6.out⟩
      clear hz
      go_wp2_with (go_at_call 56; refine (residue_any _ _ _ hq0 (by omega)).mono ?_; rintro e w2 ⟨rfl, rfl⟩)
      go_ret
      exact ⟨⟨y, HL.out, rfl⟩, rfl⟩
    · have hzb : (((y * y - a) % q : Int) != 0) = true := by rw [bne_iff_ne]; exact hz
      have hjk : j < k := by
        rcases Nat.lt_or_ge j k with h | h
        · exact h
        · have : j = k := by omega
          subst this
          have h5 := HN5.out
          rw [HQ.out] at h5
          exact absurd (Int.emod_eq_zero_of_dvd h5) hz
      have h2y1 := Int.emod_nonneg (2 * y) (b := q) (by omega)
      have h2y2 := Int.emod_lt_of_pos (2 * y) (b := q) (by omega)
      have hgc : Int.gcd (2 * y % q) q = 1 := by
        rw [gcd_emod', ← HQ.out]
        refine cop_pow (pr_cop HP.out (by omega) fun hd => ?_) k
        have hd' : (p.toNat : Int) ∣ 2 * y := by rw [Int.toNat_of_nonneg (by omega)]; exact hd
        rcases HP.out.dvd_mul_int hd' with h | h
        · rw [Int.toNat_of_nonneg (by omega)] at h
          have := Int.le_of_dvd (by omega) h
          omega
        · rw [Int.toNat_of_nonneg (by omega)] at h
          have := Int.dvd_sub h HN6.out
          have e : y - (y - r) = r := by omega
          rw [e] at this
          exact HR.out this
      clear hz
      go_wp2_with (go_at_call 56; refine (residue_any _ _ _ hq0 (by omega)).mono ?_; rintro e w2 ⟨rfl, rfl⟩)
      refine (cofactor_any (2 * y % q) q _ h2y1 (by omega) hq0 hq).mono ?_
      rintro e w2 ⟨⟨i, rfl, hi, hi1, hi2⟩, rfl⟩
      rw [hgc] at hi
      have hc1 := Int.emod_nonneg i (b := q) (by omega)
      have hc2 := Int.emod_lt_of_pos i (b := q) (by omega)
      have hec := mul_bd he1 he2 hc1 hc2 hq
      obtain ⟨hec1, hec2⟩ := hec
      obtain ⟨m, hmk, hjm, hNm⟩ := NI.step (by omega) HN.out (by rw [HQ.out]; exact hi) rfl rfl hjk
      rw [HQ.out] at hNm
      have HNM := Lib.hid hNm
      clear hi hNm hgc
      go_wp2_with (go_at_call 56; refine (residue_any _ _ _ hq0 (by omega)).mono ?_; rintro e w2 ⟨rfl, rfl⟩)
      go_roundg (k - m)
      case rel => exact ⟨m, _, ⟨HNM.out, Nat.le_refl _, rfl⟩, rfl⟩
      case measure => omega
end Go.Proofs.Ytgbnmnkgelklbaa.He
namespace Go.Proofs.Ytgbnmnkgelklbaa.He
open Nt
open Go.RowKit
set_option linter.unusedVariables false
set_option maxRecDepth 100000
noncomputable def lfE (a p k r : Int) : Int := if ppE p k ≠ 0 then ppE p k else if p = 2 then 11 else if r % p = 0 ∨ ¬ p ∣ r * r - a then 3 else 0
def LfOut (a p k r : Int) (e : Ending) : Prop := ∃ X, e = .returned (.tuple #[.int .i64 X, .int .i64 (lfE a p k r)]) ∧ (lfE a p k r = 0 → LX p a r k.toNat X) ∧ (lfE a p k r ≠ 0 → X = 0)
theorem lf_ok {a p k r : Int} (h : lfE a p k r = 0) : ppE p k = 0 ∧ 3 ≤ p ∧ ¬ p ∣ r ∧ p ∣ r * r - a := by
  unfold lfE at h
  split at h
  · omega
  · rename_i h0
    rw [Classical.not_not] at h0
    obtain ⟨hp, -, -, -, -, -⟩ := pp_ok h0
    split at h
    · omega
    · split at h
      · omega
      · rename_i h1 h2
        refine ⟨h0, by omega, fun hd => h2 (.inl (Int.emod_eq_zero_of_dvd hd)), Classical.byContradiction fun hn => h2 (.inr hn)⟩
theorem LfOut.unique {a p k r X Y : Int} (h : (lfE a p k r = 0 → LX p a r k.toNat X) ∧ (lfE a p k r ≠ 0 → X = 0)) (h' : (lfE a p k r = 0 → LX p a r k.toNat Y) ∧ (lfE a p k r ≠ 0 → Y = 0)) : X = Y := by
  by_cases h0 : lfE a p k r = 0
  · obtain ⟨h1, h2, h3, h4⟩ := lf_ok h0
    obtain ⟨-, -, hpr, hk, -, -⟩ := pp_ok h1
    exact LX.unique hpr h2 (by omega) h3 (h.1 h0) (h'.1 h0)
  · rw [h.2 h0, h'.2 h0]
theorem sq_mod {p q a r : Int} (h : p ∣ q) : p ∣ r % p * (r % p) - a % q ↔ p ∣ r * r - a := by
  have e1 : p ∣ r * r - r % p * (r % p) := by
    have e := Int.mul_ediv_add_emod r p
    have : r * r - r % p * (r % p) = (r - r % p) * (r + r % p) := by grind
    rw [this]
    have e2 : r - r % p = p * (r / p) := by omega
    rw [e2, Int.mul_assoc]; exact Int.dvd_mul_right _ _
  have e2 : p ∣ a - a % q := by
    have e := Int.mul_ediv_add_emod a q
    have : a - a % q = q * (a / q) := by omega
    rw [this]; exact Int.dvd_mul_of_dvd_left h
  have e3 := Int.dvd_sub e1 e2
  constructor
  · intro h1
    have := Int.dvd_add e3 h1
    have e4 : r * r - r % p * (r % p) - (a - a % q) + (r % p * (r % p) - a % q) = r * r - a := by omega
    rw [e4] at this; exact this
  · intro h1
    have := Int.dvd_sub h1 e3
    have e4 : r * r - a - (r * r - r % p * (r % p) - (a - a % q)) = r % p * (r % p) - a % q := by omega
    rw [e4] at this; exact this
theorem LX.conv {p a r X : Int} {k : Nat} (h : LX p (a % p ^ k) (r % p) k X) : LX p a r k X := by
  obtain ⟨h1, h2, h3, h4⟩ := h
  refine ⟨h1, h2, ?_, ?_⟩
  · have e := Int.mul_ediv_add_emod a (p ^ k)
    have := Int.dvd_sub h3 (Int.dvd_mul_right (p ^ k) (a / p ^ k))
    have e2 : X * X - a % p ^ k - p ^ k * (a / p ^ k) = X * X - a := by omega
    rw [e2] at this; exact this
  · have e := Int.mul_ediv_add_emod r p
    have := Int.dvd_sub h4 (Int.dvd_mul_right p (r / p))
    have e2 : X - r % p - p * (r / p) = X - r := by omega
    rw [e2] at this; exact this
theorem pp_bd (p k : Int) : 0 ≤ ppE p k ∧ ppE p k ≤ 11 := by unfold ppE; split <;> (try split) <;> (try split) <;> omega
end Go.Proofs.Ytgbnmnkgelklbaa.He
namespace Go.Proofs.Ytgbnmnkgelklbaa.He
open Nt
open Go.RowKit
set_option linter.unusedVariables false
set_option maxRecDepth 100000
set_option maxHeartbeats 1000000 in
theorem raise_any (p : Int) (n : Nat) (w : World) (hp : 1 ≤ p) (hp2 : p ≤ 1000000000) (h : p ^ n ≤ 1000000000) (hn : n ≤ 9223372036854775807) :
    Calls Try.prog 76 #[.int .i64 p, .int .i64 n] w fun e w' => e = .returned (.int .i64 (p ^ n)) ∧ w = w' := by
  have HPN := Lib.hid h
  clear h
  go_enter Try.func76, Try.ntmps76
  go_wp2
  go_loop [5, 7] (fun t5 t7 => ∃ (i : Nat) (Q : Int), ((i : Int) ≤ n ∧ Q = p ^ i) ∧ t5 = .int .i64 Q ∧ t7 = .int .i64 i) (fun _ t => n - (intOf t).toNat)
  case atStart => exact ⟨0, 1, ⟨by omega, by simp⟩, rfl, rfl⟩
  case round =>
    obtain ⟨i, Q, ⟨hi, hQ⟩, rfl, rfl⟩ := hrel
    have HQP := Lib.hid hQ
    have hQ1 : 1 ≤ Q := by rw [hQ]; have : 0 < p ^ i := Int.pow_pos (by omega); omega
    clear hQ
    by_cases hlt : (i : Int) < n
    · have HN : Hid (Q * p = p ^ (i + 1)) := Lib.hid (by rw [Int.pow_succ, ← HQP.out])
      have hm : Q * p ≤ 1000000000 := by
        rw [HN.out]
        have h1 : p ^ (i + 1) ≤ p ^ n := pow_mono hp (by omega)
        have := HPN.out
        omega
      have hm0 : 0 ≤ Q * p := Int.mul_nonneg (by omega) (by omega)
      go_wp2
      go_round
      case rel => exact ⟨i + 1, Q * p, ⟨by omega, HN.out⟩, rfl, by go_num⟩
      case measure => simp [intOf]; omega
    · have hin : i = n := by omega
      have HR : Hid (Q = p ^ n) := Lib.hid (by rw [← hin]; exact HQP.out)
      clear hin
      go_wp2
      go_ret
      exact ⟨by rw [← HR.out]; rfl, rfl⟩
theorem power_at (a m e : Int) (n : Nat) (w : World) (he : e = n) (h1 : 1 ≤ m) (h2 : m ≤ 1000000000) (h3 : n ≤ 9223372036854775807) :
    Calls Try.prog 85 #[.int .i64 a, .int .i64 e, .int .i64 m] w fun e w' => e = .returned (.int .i64 (powM a n m)) ∧ w = w' := by
  subst he; exact power_any a m n w h1 h2 h3
theorem TI.mod {p a x b c : Int} {S : Nat} (h : TI p a S x b c) : TI p a S (x % p) (b % p) (c % p) := by
  obtain ⟨h1, h2, h3⟩ := h
  refine ⟨((E.mod p x).mul (E.mod p x)).trans (h1.trans ((E.refl p a).mul (E.mod p b).symm)), ((E.mod p b).pow _).trans h2, ((E.mod p c).pow _).trans h3⟩
theorem TI.start {p : Nat} {a z : Int} {S T : Nat} (hp : Pr p) (ho : p % 2 = 1) (h : (2 * T + 1) * 2 ^ S = (p - 1) / 2) (ha : leg a p = 1) (hz : leg z p = -1) :
    TI p a S (a ^ (T + 1) % p) (a ^ (2 * T + 1) % p) (z ^ (2 * T + 1) % p) := by
  refine TI.mod ⟨?_, ?_, ?_⟩
  · rw [← Int.pow_add, ← Int.pow_succ']
    have : T + 1 + (T + 1) = 2 * T + 1 + 1 := by omega
    rw [this]; exact E.refl _ _
  · rw [← Int.pow_mul, h]
    have := leg_cong hp ho a
    rw [ha] at this
    exact E.dvd.2 this
  · rw [← Int.pow_mul, h]
    have := leg_cong hp ho z
    rw [hz] at this
    exact E.dvd.2 this
theorem mul_in {p x y : Int} (hp : p ≤ 1000000000) (h1 : 0 ≤ x) (h2 : x < p) (h3 : 0 ≤ y) (h4 : y < p) : 0 ≤ x * y ∧ x * y ≤ 1000000000 * 1000000000 := ⟨Int.mul_nonneg h1 h3, Int.mul_le_mul (by omega) (by omega) h3 (by omega)⟩
theorem strip_p (p : Nat) (w : World) (h3 : 3 ≤ p) (ho : p % 2 = 1) (hpm : p ≤ 1000000000) :
    Calls Try.prog 55 #[.int .i64 ((p : Int) - 1), .int .i64 2] w fun e w' => (∃ S T : Nat, (2 * T + 1) * 2 ^ S = (p - 1) / 2 ∧ S ≤ 40 ∧ 2 * T + 1 ≤ 1000000000 ∧ e = .returned (.tuple #[.int .i64 (2 * (T : Int) + 1), .int .i64 ((S : Int) + 1)])) ∧ w = w' := by
  refine (strip_any ((p : Int) - 1) 2 _ (by omega) (by omega) (by omega) (by omega) (by omega)).mono ?_
  rintro e w2 ⟨⟨r, k, rfl, hst, hr⟩, rfl⟩
  obtain ⟨s1, s2, s3, s4⟩ := hst
  obtain ⟨R, rfl⟩ := Int.eq_ofNat_of_zero_le (show 0 ≤ r by have := s4.1 (by omega); omega)
  obtain ⟨T, rfl⟩ : ∃ T, R = 2 * T + 1 := ⟨R / 2, by omega⟩
  have hR : (2 * T + 1) * 2 ^ k = p - 1 := by
    have e1 : (((2 * T + 1) * 2 ^ k : Nat) : Int) = (p : Int) - 1 := by rw [s1]; simp
    omega
  obtain ⟨S, rfl⟩ : ∃ S, k = S + 1 := by
    refine ⟨k - 1, ?_⟩
    rcases Nat.eq_zero_or_pos k with h | h
    · subst h; have := ho; omega
    · omega
  rw [Nat.pow_succ, ← Nat.mul_assoc] at hR
  have HH : (2 * T + 1) * 2 ^ S = (p - 1) / 2 := by omega
  have hS : S ≤ 40 := by
    rcases Nat.lt_or_ge S 41 with h | h
    · omega
    · have h4 : 2 ^ 41 ≤ 2 ^ S := Nat.pow_le_pow_right (by omega) h
      have h5 : 1 * 2 ^ S ≤ (2 * T + 1) * 2 ^ S := Nat.mul_le_mul_right _ (by omega)
      omega
  have hT : 2 * T + 1 ≤ 1000000000 := by
    have : (2 * T + 1) * 1 ≤ (2 * T + 1) * 2 ^ S := Nat.mul_le_mul_left _ (Nat.pow_pos (by omega))
    omega
  exact ⟨⟨S, T, HH, hS, hT, by simp⟩, rfl⟩
set_option maxHeartbeats 2000000 in
theorem rmp_any (a : Int) (p : Nat) (w : World) (hp : Pr p) (ho : p % 2 = 1) (hpm : p ≤ 1000000000) (ha : leg a p = 1) :
    Calls Try.prog 81 #[.int .i64 a, .int .i64 p] w fun e w' => (∃ x : Int, 0 ≤ x ∧ x < p ∧ (p : Int) ∣ x * x - a ∧ e = .returned (.int .i64 x)) ∧ w = w' := by
  have h2 := hp.1
  obtain ⟨z0, hz1, hz2, hz3⟩ := nonres hp ho
  have HP := Lib.hid hp
  have HA := Lib.hid ha
  have HZ := Lib.hid hz3
  have HO := Lib.hid ho
  have h3 : 3 ≤ p := by omega
  clear hp ha hz3 ho
  have HS := Lib.hid (strip_p p w h3 HO.out hpm)
  go_enter Try.func81, Try.ntmps81
  go_wp2_with (go_at_call 55; refine HS.out.mono ?_; rintro e w2 ⟨⟨S, T, hH, hS, hT, rfl⟩, rfl⟩; have HH := Lib.hid hH; clear hH)
  go_loop [7] (fun t7 => ∃ z : Nat, (2 ≤ z ∧ z ≤ z0) ∧ t7 = .int .i64 z) (fun t => z0 - (intOf t).toNat)
  case atStart => exact ⟨2, ⟨by omega, by omega⟩, rfl⟩
  case round =>
    obtain ⟨z, ⟨hz4, hz5⟩, rfl⟩ := hrel
    by_cases hl : leg (z : Int) p = -1
    · have HJ : Hid (Calls Try.prog 57 #[.int .i64 z, .int .i64 p] w fun e w' => e = .returned (.int .i64 (-1)) ∧ w = w') := Lib.hid (by
        have h := jacobi_any z p w HO.out hpm
        rw [jac_prime _ HP.out HO.out, hl] at h; exact h)
      have HTI := Lib.hid (TI.start HP.out HO.out HH.out HA.out hl)
      clear hl
      go_wp2_with (first | (go_at_call 57; refine HJ.out.mono ?_; rintro e w2 ⟨rfl, rfl⟩) | (go_at_call 85; refine (power_at _ _ _ (T + 1) _ (by omega) (by omega) (by omega) (by omega)).mono ?_; rintro e w2 ⟨rfl, rfl⟩) | (go_at_call 85; refine (power_at _ _ _ (2 * T + 1) _ (by omega) (by omega) (by omega) (by omega)).mono ?_; rintro e w2 ⟨rfl, rfl⟩))
      go_loopg [6, 8, 9, 10, 11, 12, 13] S (fun gg t6 t8 t9 t10 _ _ _ wr => ∃ (s : Nat) (x b c : Int), (s ≤ S ∧ s ≤ gg ∧ (0 ≤ x ∧ x < p) ∧ (0 ≤ b ∧ b < p) ∧ (0 ≤ c ∧ c < p) ∧ TI p a s x b c ∧ wr = w) ∧ t6 = .int .i64 ((s : Int) + 1) ∧ t8 = .int .i64 x ∧ t9 = .int .i64 b ∧ t10 = .int .i64 c)
      case atStart => exact ⟨S, _, _, _, ⟨Nat.le_refl _, Nat.le_refl _, ⟨Int.emod_nonneg _ (by omega), Int.emod_lt_of_pos _ (by omega)⟩, ⟨Int.emod_nonneg _ (by omega), Int.emod_lt_of_pos _ (by omega)⟩, ⟨Int.emod_nonneg _ (by omega), Int.emod_lt_of_pos _ (by omega)⟩, HTI.out, rfl⟩, by go_num, rfl, rfl, rfl⟩
      case round =>
        obtain ⟨s, x, b, c, ⟨hs, hg, ⟨hx1, hx2⟩, ⟨hb1, hb2⟩, ⟨hc1, hc2⟩, hti, rfl⟩, rfl, rfl, rfl, rfl⟩ := hrel
        have HT := Lib.hid hti
        clear hti HTI
        by_cases hb : b = 1
        · subst hb
          have HD : Hid ((p : Int) ∣ x * x - a) := Lib.hid (by have := HT.out.1; rw [Int.mul_one] at this; exact E.dvd.1 this)
          go_wp2
          go_ret
          exact ⟨⟨x, hx1, hx2, HD.out, rfl⟩, rfl⟩
        · have hbb : ((b : Int) != 1) = true := by rw [bne_iff_ne]; exact hb
          have HNB : Hid (¬ E p b 1) := Lib.hid (fun h => hb (by
            unfold E at h
            rw [Int.emod_eq_of_lt hb1 hb2, Int.emod_eq_of_lt (by omega) (by omega)] at h; exact h))
          clear hb
          go_wp2
          go_loopg [11, 12] s (fun gg t11 t12 wi => ∃ (k : Nat) (t : Int), (k ≤ s ∧ s - k ≤ gg ∧ (0 ≤ t ∧ t < p) ∧ E p (b ^ 2 ^ k) t ∧ (∀ i, i < k → ¬ E p (b ^ 2 ^ i) 1) ∧ wi = wr) ∧ t11 = .int .i64 k ∧ t12 = .int .i64 t)
          case atStart => exact ⟨0, b, ⟨Nat.zero_le _, by omega, ⟨hb1, hb2⟩, by rw [show (2 : Nat) ^ 0 = 1 from rfl, Int.pow_one]; exact E.refl _ _, fun i h => by omega, rfl⟩, rfl, rfl⟩
          case round =>
            obtain ⟨k, t, ⟨hk, hg2, ⟨ht1, ht2⟩, hE, hno, rfl⟩, rfl, rfl⟩ := hrel
            have HE := Lib.hid hE
            have HNO := Lib.hid hno
            clear hE hno
            by_cases ht : t = 1
            · subst ht
              obtain ⟨k', rfl⟩ : ∃ k', k = k' + 1 := by
                refine ⟨k - 1, ?_⟩
                rcases Nat.eq_zero_or_pos k with h | h
                · subst h; have := HE.out; rw [show (2 : Nat) ^ 0 = 1 from rfl, Int.pow_one] at this; exact absurd this HNB.out
                · omega
              obtain ⟨Q, hQ⟩ : ∃ Q : Nat, Q = 2 ^ (s - (k' + 1)) := ⟨_, rfl⟩
              have hQ2 : Q ≤ 1099511627776 := by rw [hQ, show 1099511627776 = 2 ^ 40 from rfl]; exact Nat.pow_le_pow_right (by omega) (by omega)
              obtain ⟨y, hy⟩ : ∃ y, powM c Q p = y := ⟨_, rfl⟩
              have hy1 : 0 ≤ y := by rw [← hy]; exact Int.emod_nonneg _ (by omega)
              have hy2 : y < p := by rw [← hy]; exact Int.emod_lt_of_pos _ (by omega)
              have HY : Hid (E p y (c ^ 2 ^ (s - (k' + 1)))) := Lib.hid (by rw [← hy, ← hQ]; exact E.mod _ _)
              have hbm : b * (y * y % p) % p = b * (y * y) % p := (E.refl (p : Int) b).mul (E.mod (p : Int) (y * y))
              have htn := (HT.out.step HP.out hk HE.out (HNO.out k' (by omega)) HY.out).mod
              rw [← hbm] at htn
              have HTN := Lib.hid htn
              have hyp1 := Int.emod_nonneg (y * y) (b := (p : Int)) (by omega)
              have hyp2 := Int.emod_lt_of_pos (y * y) (b := (p : Int)) (by omega)
              have hby1 := mul_in (show (p : Int) ≤ 1000000000 by omega) hb1 hb2 hyp1 hyp2
              obtain ⟨hby1, hby2⟩ := hby1
              clear htn hbm
              have hyy1 := mul_in (by omega) hy1 hy2 hy1 hy2
              have hxy1 := mul_in (by omega) hx1 hx2 hy1 hy2
              have HSH : Hid (wrap64 (2 ^ (s - k' - 1)) = (Q : Int)) := Lib.hid (by
                have e1 : s - k' - 1 = s - (k' + 1) := by omega
                have e2 : (2 : Int) ^ (s - (k' + 1)) = (Q : Int) := by rw [hQ]; simp
                rw [e1, e2]
                exact IntWalk.wrap64_in (Q : Int) (by omega))
              have htw : 0 ≤ (s : Int) + 1 - (k' + 1 : Nat) - 1 ∧ (s : Int) + 1 - (k' + 1 : Nat) - 1 ≤ 40 := by omega
              obtain ⟨htw1, htw2⟩ := htw
              obtain ⟨hyy1, hyy2⟩ := hyy1
              obtain ⟨hxy1, hxy2⟩ := hxy1
              have HPW : Hid (∀ e : Int, e = (Q : Int) → Calls Try.prog 85 #[.int .i64 c, .int .i64 e, .int .i64 p] wr fun e' w' => e' = .returned (.int .i64 y) ∧ wr = w') := Lib.hid (fun e he => by
                have h := power_at c p e Q wr he (by omega) (by omega) (by omega)
                rw [hy] at h; exact h)
              clear hy hQ HNO HE
              go_wp2_with (go_at_call 85; refine (HPW.out _ HSH.out).mono ?_; rintro e w2 ⟨rfl, rfl⟩)
              go_roundg k'
              case rel => exact ⟨k', _, _, _, ⟨by omega, Nat.le_refl _, ⟨Int.emod_nonneg _ (by omega), Int.emod_lt_of_pos _ (by omega)⟩, ⟨Int.emod_nonneg _ (by omega), Int.emod_lt_of_pos _ (by omega)⟩, ⟨Int.emod_nonneg _ (by omega), Int.emod_lt_of_pos _ (by omega)⟩, HTN.out, rfl⟩, by go_num, rfl, rfl, rfl⟩
              case measure => omega
            · have htb : ((t : Int) != 1) = true := by rw [bne_iff_ne]; exact ht
              have hks : k < s := by
                rcases Nat.lt_or_ge k s with h | h
                · exact h
                · have h6 : k = s := by omega
                  subst h6
                  have h7 := HE.out.symm.trans HT.out.2.1
                  unfold E at h7
                  rw [Int.emod_eq_of_lt ht1 ht2, Int.emod_eq_of_lt (by omega) (by omega)] at h7
                  exact absurd h7 ht
              have HN : Hid (E p (b ^ 2 ^ (k + 1)) (t * t % p)) := Lib.hid (by
                rw [Nat.pow_succ, Nat.mul_comm, Nat.two_mul, Int.pow_add]
                exact (HE.out.mul HE.out).trans (E.mod _ _).symm)
              have HNN : Hid (∀ i, i < k + 1 → ¬ E p (b ^ 2 ^ i) 1) := Lib.hid (fun i h => by
                rcases Nat.lt_or_ge i k with h5 | h5
                · exact HNO.out i h5
                · have : i = k := by omega
                  subst this
                  intro h6
                  have h7 := HE.out.symm.trans h6
                  unfold E at h7
                  rw [Int.emod_eq_of_lt ht1 ht2, Int.emod_eq_of_lt (by omega) (by omega)] at h7
                  exact ht h7)
              obtain ⟨htt1, htt2⟩ := mul_in (show (p : Int) ≤ 1000000000 by omega) ht1 ht2 ht1 ht2
              have hte1 := Int.emod_nonneg (t * t) (b := (p : Int)) (by omega)
              have hte2 := Int.emod_lt_of_pos (t * t) (b := (p : Int)) (by omega)
              clear ht
              go_wp2
              go_roundg (s - (k + 1))
              case rel => exact ⟨k + 1, _, ⟨by omega, Nat.le_refl _, ⟨hte1, hte2⟩, HN.out, HNN.out, rfl⟩, by go_num, rfl⟩
              case measure => omega
    · have hzz : z < z0 := by
        rcases Nat.lt_or_ge z z0 with h | h
        · exact h
        · have : z = z0 := by omega
          subst this
          exact absurd HZ.out hl
      have hlb : ((leg (z : Int) p : Int) != -1) = true := by rw [bne_iff_ne]; exact hl
      have HJ : Hid (Calls Try.prog 57 #[.int .i64 z, .int .i64 p] w fun e w' => e = .returned (.int .i64 (leg z p)) ∧ w = w') := Lib.hid (by
        have h := jacobi_any z p w HO.out hpm
        rw [jac_prime _ HP.out HO.out] at h; exact h)
      have hb : -1 ≤ leg (z : Int) p ∧ leg (z : Int) p ≤ 1 := by rcases leg_sgn (z : Int) p with h | h | h <;> omega
      obtain ⟨hb1, hb2⟩ := hb
      clear hl
      generalize leg (z : Int) p = lz at *
      go_wp2_with (go_at_call 57; refine HJ.out.mono ?_; rintro e w2 ⟨rfl, rfl⟩)
      go_round
      case rel => exact ⟨z + 1, ⟨by omega, by omega⟩, by go_num⟩
      case measure => simp [intOf]; omega
end Go.Proofs.Ytgbnmnkgelklbaa.He
namespace Go.Proofs.Ytgbnmnkgelklbaa.He
open Nt
open Go.RowKit
set_option linter.unusedVariables false
set_option maxRecDepth 100000
/-- the values of a list of integers -/
def ivs (zs : List Int) : List Value := zs.map (Value.int .i64)
theorem ivs_length (zs : List Int) : (ivs zs).length = zs.length := by simp [ivs]
theorem ivs_append (xs ys : List Int) : ivs (xs ++ ys) = ivs xs ++ ivs ys := by simp [ivs]
def srt (zs : List Int) : List Int := zs.mergeSort fun x y => decide (x ≤ y)
theorem sort_own (B n : Nat) (v : Value) (xs : List Int) (w : World) (h : w.ownsRow B 3 1 v n (ivs xs)) (hm : xs.length < 4611686018427387904) :
    Calls Try.prog 79 #[v] w fun e w' => e = .returned (.tuple #[]) ∧ w'.ownsRow B 3 1 v n (ivs (srt xs)) ∧ w.grownBy w' v.ownBlock := by
  have hn : n = xs.length := by have := h.1; rw [ivs_length] at this; omega
  subst hn
  rcases h.2 with ⟨rfl, h0⟩ | ⟨g, cap, cur, rfl, hb, hg, h1, h2, h3, h4⟩
  · have : xs = [] := List.eq_nil_of_length_eq_zero h0
    subst this
    refine (Try.slices_Sort_int_none none 0 w).mono ?_
    rintro e w' ⟨rfl, rfl⟩
    exact ⟨rfl, by simpa [srt, ivs] using World.ownsRow_nil _ _ _ _, ⟨rfl, rfl, rfl, Nat.le_refl _, fun _ _ _ => rfl⟩⟩
  · refine (Try.slices_Sort_int g 0 cap xs w (holds_of_blockI hg (by rw [Nat.mul_one] at h4; exact h4)) (Array.getElem?_eq_some_iff.1 hg).1 (by omega)).mono ?_
    rintro e w' ⟨rfl, m, os, rfl⟩
    exact ⟨rfl, ownsRow_sortedI (by simp) hb hg h1 h2 h3, grownBy_sortedI _⟩
/-- the list of all roots of u modulo q -/
def IsRts (u q : Int) (zs : List Int) : Prop := zs.Pairwise (· < ·) ∧ ∀ x, x ∈ zs ↔ 0 ≤ x ∧ x < q ∧ q ∣ x * x - u
theorem srt_rts {u q : Int} {zs : List Int} (hn : zs.Nodup) (h : ∀ x, x ∈ zs ↔ 0 ≤ x ∧ x < q ∧ q ∣ x * x - u) : IsRts u q (srt zs) := by
  have hp := List.mergeSort_perm zs (fun x y => decide (x ≤ y))
  refine ⟨?_, fun x => (hp.mem_iff).trans (h x)⟩
  have hs : (srt zs).Pairwise (fun x y => x ≤ y) := by
    have := List.pairwise_mergeSort (le := fun x y : Int => decide (x ≤ y)) (by intro a b c h1 h2; simp at *; omega) (by intro a b; simp; omega) zs
    exact this.imp (by intro a b h; simpa using h)
  have hd : (srt zs).Nodup := hp.nodup_iff.2 hn
  exact (hs.and hd).imp (by intro a b h; have := h.1; have := h.2; omega)
theorem none_rts {p u q : Int} (hp : Pr p.toNat) (h3 : 3 ≤ p) (hpq : p ∣ q) (hu : ¬ p ∣ u) (hl : leg u p.toNat ≠ 1) : IsRts u q [] := by
  refine ⟨List.Pairwise.nil, fun x => ⟨fun h => (by cases h), fun ⟨_, _, hd⟩ => ?_⟩⟩
  have hpc : (p.toNat : Int) = p := Int.toNat_of_nonneg (by omega)
  have ho : p.toNat % 2 = 1 := by
    rcases Nat.mod_two_eq_zero_or_one p.toNat with h0 | h0
    · have := hp.2 2 (Nat.dvd_of_mod_eq_zero h0)
      omega
    · exact h0
  have hd2 := Int.dvd_trans hpq hd
  have hx : ¬ p ∣ x := fun h => hu (by
    have := Int.dvd_sub (Int.dvd_mul_of_dvd_left (c := x) h) hd2
    have e : x * x - (x * x - u) = u := by omega
    rw [e] at this; exact this)
  have e : leg u p.toNat = leg (x * x) p.toNat := leg_congr (by rw [hpc]; exact (E.dvd.2 hd2).symm)
  rw [leg_mul hp ho, leg_sq hp ho (by rw [hpc]; exact hx)] at e
  exact absurd e hl
theorem two_rts {p u r : Int} {k : Nat} (hp : Pr p.toNat) (h3 : 3 ≤ p) (hk : 1 ≤ k) (hu : ¬ p ∣ u) (h0 : 0 ≤ r) (h1 : r < p ^ k) (hr : p ^ k ∣ r * r - u) : IsRts u (p ^ k) (srt [r, p ^ k - r]) := by
  have hpq : p ∣ p ^ k := p_dvd_pow hk
  have hrp : ¬ p ∣ r := fun h => hu (by
    have := Int.dvd_sub (Int.dvd_mul_of_dvd_left (c := r) h) (Int.dvd_trans hpq hr)
    have e : r * r - (r * r - u) = u := by omega
    rw [e] at this; exact this)
  have h2r : ¬ p ∣ 2 * r := fun hd => by
    have hd' : (p.toNat : Int) ∣ 2 * r := by rw [Int.toNat_of_nonneg (by omega)]; exact hd
    rcases hp.dvd_mul_int hd' with h | h
    · rw [Int.toNat_of_nonneg (by omega)] at h
      have := Int.le_of_dvd (by omega) h
      omega
    · rw [Int.toNat_of_nonneg (by omega)] at h
      exact hrp h
  have hr0 : r ≠ 0 := fun h => hrp (by rw [h]; exact Int.dvd_zero p)
  have hne : r ≠ p ^ k - r := fun h => h2r (by
    have : 2 * r = p ^ k := by omega
    rw [this]; exact hpq)
  refine srt_rts (by simp [hne]) fun x => ?_
  simp only [List.mem_cons, List.not_mem_nil, or_false]
  constructor
  · rintro (rfl | rfl)
    · exact ⟨h0, h1, hr⟩
    · refine ⟨by omega, by omega, ?_⟩
      have e : (p ^ k - r) * (p ^ k - r) - u = p ^ k * (p ^ k - 2 * r) + (r * r - u) := by grind
      rw [e]; exact Int.dvd_add (Int.dvd_mul_right _ _) hr
  · rintro ⟨hx0, hx1, hx⟩
    have hd := Int.dvd_sub hx hr
    have e : x * x - u - (r * r - u) = (x - r) * (x + r) := by grind
    rw [e] at hd
    by_cases hm : p ∣ x - r
    · have hpl : ¬ p ∣ x + r := fun h => h2r (by
        have := Int.dvd_sub h hm
        have e2 : x + r - (x - r) = 2 * r := by omega
        rw [e2] at this; exact this)
      rw [Int.mul_comm] at hd
      have h5 := cop_cancel (cop_pow (pr_cop hp (by omega) hpl) k) hd
      left
      obtain ⟨c, hc⟩ := h5
      rcases Int.lt_trichotomy c 0 with h6 | h6 | h6
      · have : p ^ k * c ≤ p ^ k * (-1) := Int.mul_le_mul_of_nonneg_left (by omega) (by omega)
        omega
      · subst h6; simp at hc; omega
      · have : p ^ k * 1 ≤ p ^ k * c := Int.mul_le_mul_of_nonneg_left (by omega) (by omega)
        omega
    · have h5 := cop_cancel (cop_pow (pr_cop hp (by omega) hm) k) hd
      right
      obtain ⟨c, hc⟩ := h5
      rcases Int.lt_trichotomy c 1 with h6 | h6 | h6
      · have : p ^ k * c ≤ p ^ k * 0 := Int.mul_le_mul_of_nonneg_left (by omega) (by omega)
        omega
      · subst h6; omega
      · have : p ^ k * 2 ≤ p ^ k * c := Int.mul_le_mul_of_nonneg_left (by omega) (by omega)
        omega
end Go.Proofs.Ytgbnmnkgelklbaa.He
namespace Go.Proofs.Ytgbnmnkgelklbaa.He
open Nt
open Go.RowKit
set_option linter.unusedVariables false
set_option maxRecDepth 100000
/-- a list of roots that the call made -/
def RtOut (w : World) (u q : Int) (m : Nat) (e : Ending) (w' : World) : Prop := (∃ (v : Value) (zs : List Int), e = .returned v ∧ IsRts u q zs ∧ zs.length ≤ m ∧ w'.ownsRow w.heap.size 3 1 v zs.length (ivs zs)) ∧ Below w.heap.size w w'
theorem srt_length (zs : List Int) : (srt zs).length = zs.length := (List.mergeSort_perm zs _).length_eq
set_option maxHeartbeats 1000000 in
theorem uroots_any (u p : Int) (k : Nat) (w : World) (hp : Pr p.toNat) (h3 : 3 ≤ p) (hpm : p ≤ 1000000000) (hk : 1 ≤ k) (hq : p ^ k ≤ 1000000000) (h0 : 0 ≤ u) (h1 : u < p ^ k) (hu : ¬ p ∣ u) :
    Calls Try.prog 78 #[.int .i64 u, .int .i64 p, .int .i64 (p ^ k)] w fun e w' => RtOut w u (p ^ k) 2 e w' := by
  obtain ⟨n, rfl⟩ : ∃ n : Nat, p = n := ⟨p.toNat, by omega⟩
  have hp' : Pr n := by simpa using hp
  have ho : n % 2 = 1 := by
    rcases Nat.mod_two_eq_zero_or_one n with h | h
    · have := hp'.2 2 (Nat.dvd_of_mod_eq_zero h)
      omega
    · exact h
  have hpq : (n : Int) ∣ (n : Int) ^ k := p_dvd_pow hk
  by_cases hl : leg u n = 1
  · have HJ : Hid (Calls Try.prog 57 #[.int .i64 u, .int .i64 n] w fun e w' => e = .returned (.int .i64 1) ∧ w = w') := Lib.hid (by
      have h := jacobi_any u n w ho (by omega)
      rw [jac_prime _ hp' ho, hl] at h; exact h)
    have HM := Lib.hid (rmp_any u n w hp' ho (by omega) hl)
    have HLF : Hid (∀ x : Int, 0 ≤ x → x < n → (n : Int) ∣ x * x - u → Calls Try.prog 80 #[.int .i64 u, .int .i64 ((n : Int) ^ k), .int .i64 x] w fun e w' => (∃ X, LX n u x k X ∧ e = .returned (.int .i64 X)) ∧ w = w') := Lib.hid (fun x hx0 hx1 hx => by
      have hnx : ¬ (n : Int) ∣ x := fun hd => hu (by
        have := Int.dvd_sub (Int.dvd_mul_of_dvd_left (c := x) hd) hx
        have e : x * x - (x * x - u) = u := by omega
        rw [e] at this; exact this)
      have hle : (n : Int) ≤ (n : Int) ^ k := Int.le_of_dvd (by omega) hpq
      exact lift_any n u x x k w hp h3 hk hq h0 h1 hnx hx0 (by omega) hx (by rw [Int.sub_self]; exact Int.dvd_zero _))
    have HTW : Hid (∀ r : Int, 0 ≤ r → r < (n : Int) ^ k → (n : Int) ^ k ∣ r * r - u → IsRts u ((n : Int) ^ k) (srt [r, (n : Int) ^ k - r])) := Lib.hid (fun r => two_rts hp h3 hk hu)
    obtain ⟨q, hqq⟩ : ∃ q, (n : Int) ^ k = q := ⟨_, rfl⟩
    have HXQ : Hid (∀ x X, LX n u x k X → 0 ≤ X ∧ X < q ∧ q ∣ X * X - u) := Lib.hid (fun x X h => by rw [← hqq]; exact ⟨h.1, h.2.1, h.2.2.1⟩)
    rw [hqq] at hq h1 HLF HTW ⊢
    clear hl ho hp hp' hpq hqq hu
    go_enter Try.func78, Try.ntmps78
    go_wp2_with (first | (go_at_call 57; refine HJ.out.mono ?_; rintro e w2 ⟨rfl, rfl⟩) | (go_at_call 81; refine HM.out.mono ?_; rintro e w2 ⟨⟨x, hx0, hx1, hx, rfl⟩, rfl⟩; have HX := Lib.hid hx; clear hx) | (go_at_call 80; refine (HLF.out _ hx0 hx1 HX.out).mono ?_; rintro e w2 ⟨⟨X, hX, rfl⟩, rfl⟩; have HXX := Lib.hid (HXQ.out _ _ hX); obtain ⟨hX0, hX1, _⟩ := HXX.out; clear hX)  | (go_at_call 79; fail))
    have hRT := Lib.hid (HTW.out X hX0 hX1 HXX.out.2.2)
    have hown0 := World.ownsRow_lit (base := w.heap.size) (size := 1) (e := 3) w #[Value.int IntKind.i64 X, Value.int IntKind.i64 (q - X)] 2 (Nat.le_refl _) (by unfold maxLen; omega) rfl
    have hB0 : Below w.heap.size w (w.alloc (Obj.cells #[Value.int IntKind.i64 X, Value.int IntKind.i64 (q - X)] 3)) := (Below.refl _ _).alloc (Nat.le_refl _) _
    have HB0 := Lib.hid hB0
    refine (sort_own w.heap.size 2 _ [X, q - X] _ hown0 (by simp)).mono ?_
    rintro e w2 ⟨rfl, hown, hgr⟩
    have HO := Lib.hid hown
    have HB1 : Hid (Below w.heap.size w w2) := Lib.hid (HB0.out.grown hgr (by simp) (fun j hj => by simp [Value.ownBlock] at hj; omega))
    clear hown hgr hown0 hB0
    go_wp2
    go_ret
    exact ⟨⟨_, _, rfl, hRT.out, by rw [srt_length]; exact Nat.le_refl _, by rw [srt_length]; exact HO.out⟩, HB1.out⟩
  · have HJ : Hid (Calls Try.prog 57 #[.int .i64 u, .int .i64 n] w fun e w' => e = .returned (.int .i64 (leg u n)) ∧ w = w') := Lib.hid (by
      have h := jacobi_any u n w ho (by omega)
      rw [jac_prime _ hp' ho] at h; exact h)
    have HN := Lib.hid (none_rts (q := (n : Int) ^ k) hp h3 hpq hu (by simpa using hl))
    have hlb : ((leg u n : Int) != 1) = true := by rw [bne_iff_ne]; exact hl
    have hb : -1 ≤ leg u n ∧ leg u n ≤ 1 := by rcases leg_sgn u n with h | h | h <;> omega
    obtain ⟨hb1, hb2⟩ := hb
    clear hl ho hp hp' hpq hu
    generalize (n : Int) ^ k = q at *
    generalize leg u n = lz at *
    go_enter Try.func78, Try.ntmps78
    go_wp2_with (go_at_call 57; refine HJ.out.mono ?_; rintro e w2 ⟨rfl, rfl⟩)
    go_ret
    exact ⟨⟨_, [], rfl, HN.out, by simp, by simpa [ivs] using World.ownsRow_nil _ _ _ _⟩, Below.refl _ _⟩
end Go.Proofs.Ytgbnmnkgelklbaa.He
namespace Go.Proofs.Ytgbnmnkgelklbaa.He
open Nt
open Go.RowKit
open Ws (new_one infoI)
set_option linter.unusedVariables false
set_option maxRecDepth 100000
/-- a slice of integers that the call made -/
def LI (B : Nat) (w : World) (A : Option Addr) (c : Nat) (zs : List Int) : Prop := w.ownsRow B 3 1 (.slice A zs.length c) zs.length (ivs zs)
theorem LI.of {B : Nat} {w : World} {v : Value} {zs : List Int} {n : Nat} (h : w.ownsRow B 3 1 v n (ivs zs)) : ∃ A c, v = .slice A zs.length c ∧ LI B w A c zs := by
  have hn : n = zs.length := by have := h.1; rw [ivs_length] at this; omega
  subst hn
  have h' := h
  rcases h.2 with ⟨rfl, h0⟩ | ⟨g, cap, cur, rfl, hb, hg, h1, h2, h3, h4⟩
  · refine ⟨none, 0, by rw [h0], ?_⟩
    unfold LI; rw [h0]; rw [h0] at h'; exact h'
  · exact ⟨_, cap, rfl, h'⟩
theorem LI.nil_ (B : Nat) (w : World) : LI B w none 0 [] := by unfold LI; simpa [ivs] using World.ownsRow_nil _ _ _ _
theorem LI.at_ {B : Nat} {w : World} {A : Option Addr} {c : Nat} {zs : List Int} (h : LI B w A c zs) {j : Nat} (hj : j < zs.length) : ∃ b x, A = some ⟨b, 0, none⟩ ∧ Hid (zs[j] = x) ∧ w.cell? ⟨b, j, none⟩ = some (.int .i64 x) ∧ B ≤ b ∧ b < w.heap.size := by
  rcases h.2 with ⟨h0, h1⟩ | ⟨g, cap, cur, hv, hb, hg, h1, h2, h3, h4⟩
  · omega
  · injection hv with e1 e2 e3
    subst e1 e3
    refine ⟨g, zs[j], rfl, Lib.hid rfl, ?_, hb, (Array.getElem?_eq_some_iff.1 hg).1⟩
    rw [World.ownsRow.cellAt h j (by omega)]
    simp [ivs, List.getElem?_eq_getElem hj]
theorem LI.below {B B' : Nat} {w w' : World} {A : Option Addr} {c : Nat} {zs : List Int} (h : LI B w A c zs) (hb : Below B' w w') (hB : ∀ a, A = some a → a.block < B') : LI B w' A c zs := by
  refine ⟨h.1, ?_⟩
  rcases h.2 with ⟨h0, h1⟩ | ⟨g, cap, cur, hv, h5, hg, h1, h2, h3, h4⟩
  · exact .inl ⟨h0, h1⟩
  · injection hv with e1 e2 e3
    subst e1 e3
    exact .inr ⟨g, c, cur, rfl, h5, (hb.block g (hB _ rfl)).trans hg, h1, h2, h3, h4⟩
theorem LI.lt {B : Nat} {w : World} {A : Option Addr} {c : Nat} {zs : List Int} (h : LI B w A c zs) : ∀ a, A = some a → a.block < w.heap.size := by
  intro a ha
  subst ha
  rcases h.2 with ⟨h0, h1⟩ | ⟨g, cap, cur, hv, h5, hg, h1, h2, h3, h4⟩
  · cases h0
  · injection hv with e1 e2 e3
    injection e1 with e1
    subst e1
    exact (Array.getElem?_eq_some_iff.1 hg).1
theorem LI.mono {B B' : Nat} {w : World} {A : Option Addr} {c : Nat} {zs : List Int} (h : LI B w A c zs) (hB : B' ≤ B) : LI B' w A c zs := by
  refine ⟨h.1, ?_⟩
  rcases h.2 with ⟨h0, h1⟩ | ⟨g, cap, cur, hv, h5, hg, h1, h2, h3, h4⟩
  · exact .inl ⟨h0, h1⟩
  · exact .inr ⟨g, cap, cur, hv, by omega, hg, h1, h2, h3, h4⟩
theorem LI.lt_own {B n : Nat} {w : World} {A : Option Addr} {c : Nat} {zs : List Int} (h : LI B w A c zs) : ∀ j, (Value.slice A n c).ownBlock = some j → B ≤ j := by
  intro j hj
  rcases h.2 with ⟨h0, h1⟩ | ⟨g, cap, cur, hv, h5, hg, h1, h2, h3, h4⟩
  · injection h0 with e1 e2 e3
    subst e1; cases hj
  · injection hv with e1 e2 e3
    subst e1
    simp [Value.ownBlock] at hj
    omega
/-- which of r, r + m is a root modulo 2 m -/
def okR (u m x : Int) : Bool := (x * x - u).tmod (2 * m) == 0
def cand (u m r : Int) : List Int := [r, r + m].filter (okR u m)
def IR (u m : Int) (zs : List Int) : Prop := zs.Nodup ∧ ∀ x, x ∈ zs ↔ 0 ≤ x ∧ x < m ∧ m ∣ x * x - u
theorem okR_iff {u m x : Int} : okR u m x = true ↔ 2 * m ∣ x * x - u := by
  unfold okR
  rw [beq_iff_eq]
  exact ⟨Int.dvd_of_tmod_eq_zero, Int.tmod_eq_zero_of_dvd⟩
theorem mem_cand {u m r x : Int} : x ∈ cand u m r ↔ (x = r ∨ x = r + m) ∧ 2 * m ∣ x * x - u := by
  unfold cand; rw [List.mem_filter, okR_iff]; simp
theorem IR.step {u m : Int} {zs : List Int} (hm : 1 ≤ m) (h : IR u m zs) : IR u (2 * m) (zs.flatMap (cand u m)) := by
  obtain ⟨h1, h2⟩ := h
  refine ⟨?_, fun x => ?_⟩
  · unfold List.Nodup
    rw [List.pairwise_flatMap]
    refine ⟨fun r hr => ?_, ?_⟩
    · unfold cand
      refine List.Pairwise.filter _ ?_
      simp; omega
    · have h3 : zs.Pairwise (fun a b => (0 ≤ a ∧ a < m) ∧ (0 ≤ b ∧ b < m) ∧ a ≠ b) := by
        rw [List.pairwise_iff_forall_sublist]
        intro a b hs
        have ha := (h2 a).1 (hs.subset (by simp))
        have hb := (h2 b).1 (hs.subset (by simp))
        refine ⟨⟨ha.1, ha.2.1⟩, ⟨hb.1, hb.2.1⟩, ?_⟩
        exact List.pairwise_iff_forall_sublist.1 h1 hs
      refine h3.imp ?_
      intro a b ⟨⟨a1, a2⟩, ⟨b1, b2⟩, hne⟩ x hx y hy
      rcases (mem_cand.1 hx).1 with rfl | rfl <;> rcases (mem_cand.1 hy).1 with rfl | rfl <;> omega
  · rw [List.mem_flatMap]
    constructor
    · rintro ⟨r, hr, hx⟩
      obtain ⟨r1, r2, -⟩ := (h2 r).1 hr
      obtain ⟨hx1, hx2⟩ := mem_cand.1 hx
      exact ⟨by rcases hx1 with rfl | rfl <;> omega, by rcases hx1 with rfl | rfl <;> omega, hx2⟩
    · rintro ⟨x1, x2, x3⟩
      have hmx : m ∣ x * x - u := Int.dvd_trans (Int.dvd_mul_left 2 m) x3
      by_cases hxm : x < m
      · exact ⟨x, (h2 x).2 ⟨x1, hxm, hmx⟩, mem_cand.2 ⟨.inl rfl, x3⟩⟩
      · refine ⟨x - m, (h2 _).2 ⟨by omega, by omega, ?_⟩, mem_cand.2 ⟨.inr (by omega), x3⟩⟩
        have e : (x - m) * (x - m) - u = (x * x - u) + m * (m - 2 * x) := by grind
        rw [e]; exact Int.dvd_add hmx (Int.dvd_mul_right _ _)
theorem cand_len (u m r : Int) : (cand u m r).length ≤ 2 := List.length_filter_le _ _
theorem flat_len (u m : Int) (zs : List Int) : (zs.flatMap (cand u m)).length ≤ 2 * zs.length := by
  induction zs with
  | nil => simp
  | cons a t ih => rw [List.flatMap_cons, List.length_append, List.length_cons]; have := cand_len u m a; omega
theorem IR.start {u : Int} (h : u % 2 = 1) : IR u 2 [1] := by
  refine ⟨by simp, fun x => ?_⟩
  simp only [List.mem_cons, List.not_mem_nil, or_false]
  constructor
  · rintro rfl; exact ⟨by omega, by omega, by omega⟩
  · rintro ⟨h1, h2, h3⟩
    have : x = 0 ∨ x = 1 := by omega
    rcases this with rfl | rfl
    · simp at h3; omega
    · rfl
theorem take_flat {u m : Int} {zs : List Int} {k : Nat} (h : k < zs.length) : (zs.take (k + 1)).flatMap (cand u m) = (zs.take k).flatMap (cand u m) ++ cand u m zs[k] := by
  rw [List.take_succ_eq_append_getElem h, List.flatMap_append]; simp
end Go.Proofs.Ytgbnmnkgelklbaa.He
namespace Go.Proofs.Ytgbnmnkgelklbaa.He
open Nt
open Go.RowKit
open Ws (new_one infoI)
set_option linter.unusedVariables false
set_option linter.unusedSimpArgs false
set_option maxRecDepth 100000
set_option maxHeartbeats 4000000 in
theorem two_any (u : Int) (e : Nat) (w : World) (he : 1 ≤ e) (hq : (2 : Int) ^ e ≤ 1000000000) (h0 : 0 ≤ u) (h1 : u < 2 ^ e) (ho : u % 2 = 1) :
    Calls Try.prog 77 #[.int .i64 u, .int .i64 (2 ^ e)] w fun e' w' => RtOut w u (2 ^ e) 1000000000 e' w' := by
  obtain ⟨i0, hi, hz0, hz1, hz2⟩ := info_parts infoI
  have HIR := Lib.hid (IR.start ho)
  obtain ⟨q, hqq⟩ : ∃ q, (2 : Int) ^ e = q := ⟨_, rfl⟩
  have HQ := Lib.hid hqq
  rw [hqq] at hq h1 ⊢
  have hown0 := World.ownsRow_lit (base := w.heap.size) (size := 1) (e := 3) w #[Value.int IntKind.i64 1] 1 (Nat.le_refl _) (by unfold maxLen; omega) rfl
  have hB0 : Below w.heap.size w (w.alloc (Obj.cells #[Value.int IntKind.i64 1] 3)) := (Below.refl _ _).alloc (Nat.le_refl _) _
  have HO0 := Lib.hid hown0
  have HB0 := Lib.hid hB0
  clear ho hqq hown0 hB0
  go_enter Try.func77, Try.ntmps77
  go_wp2
  go_loopg [5, 6] e (fun gg t5 t6 wr => ∃ (i : Nat) (m : Int) (A : Option Addr) (c : Nat) (zs : List Int), (1 ≤ i ∧ i ≤ e ∧ e - i ≤ gg ∧ m = 2 ^ i ∧ IR u m zs ∧ (zs.length : Int) ≤ m ∧ LI w.heap.size wr A c zs ∧ Below w.heap.size w wr) ∧ t5 = .slice A zs.length c ∧ t6 = .int .i64 m)
  case atStart => exact ⟨1, 2, some ⟨w.heap.size, 0, none⟩, 1, [1], ⟨Nat.le_refl _, he, by omega, by simp, HIR.out, by simp, HO0.out, HB0.out⟩, rfl, rfl⟩
  case round =>
    obtain ⟨i, m, A, c, zs, ⟨hi1, hi2, hg, hm, hir, hzl, hli, hbel⟩, rfl, rfl⟩ := hrel
    obtain ⟨wo, rfl⟩ : ∃ wo : World, wo = wr := ⟨_, rfl⟩
    have HM := Lib.hid hm
    have HR := Lib.hid hir
    have HL := Lib.hid hli
    have HB := Lib.hid hbel
    have hm1 : 1 ≤ m := by rw [hm]; have : (0 : Int) < 2 ^ i := Int.pow_pos (by omega); omega
    clear hm hir hli hbel HIR HO0 HB0
    by_cases hie : i < e
    · have hmq : 2 * m ≤ q := by
        rw [HM.out, ← HQ.out, Int.mul_comm, ← Int.pow_succ]; exact pow_mono (by omega) hie
      have hHB := HB.out.size
      have hmlt : m < q := by omega
      have HLT := Lib.hid HL.out.lt
      go_wp2
      go_loopg [7, 20] zs.length (fun gg t7 t20 wi => ∃ (kk : Nat) (A3 : Option Addr) (c3 : Nat) (ys : List Int), (kk ≤ zs.length ∧ zs.length - kk ≤ gg ∧ ys = (zs.take kk).flatMap (cand u m) ∧ ys.length ≤ 2 * kk ∧ LI wo.heap.size wi A3 c3 ys ∧ Below wo.heap.size wo wi) ∧ t7 = .slice A3 ys.length c3 ∧ t20 = .int .i64 kk)
      case atStart => exact ⟨0, none, 0, [], ⟨Nat.zero_le _, by omega, by simp, by simp, LI.nil_ _ _, Below.refl _ _⟩, rfl, rfl⟩
      case round =>
        obtain ⟨kk, A3, c3, ys, ⟨hk, hg2, hys, hyl, hli2, hbel2⟩, rfl, rfl⟩ := hrel
        obtain ⟨wi, rfl⟩ : ∃ wi : World, wi = wr := ⟨_, rfl⟩
        have HYS0 := Lib.hid hys
        have HO1 := Lib.hid hli2
        have HBI := Lib.hid hbel2
        clear hys hli2 hbel2
        by_cases hkz : kk < zs.length
        · obtain ⟨b, r, rfl, EX, hcell, hb1, hb2⟩ := (HL.out.below HBI.out HLT.out).at_ hkz
          have hrr := (HR.out.2 r).1 (by rw [← EX.out]; exact List.getElem_mem hkz)
          obtain ⟨hr0, hr1, _⟩ := hrr
          go_wp2
          clear hcell
          go_loopg [7, 29] 2 (fun gg t7 t29 wi2 => ∃ (ii : Nat) (J : Int) (A3 : Option Addr) (c3 : Nat) (ys : List Int), (ii ≤ 2 ∧ J = ii ∧ 2 - ii ≤ gg ∧ ys = (zs.take kk).flatMap (cand u m) ++ ([r, r + m].take ii).filter (okR u m) ∧ ys.length ≤ 2 * kk + ii ∧ LI wo.heap.size wi2 A3 c3 ys ∧ Below wo.heap.size wo wi2) ∧ t7 = .slice A3 ys.length c3 ∧ t29 = .int .i64 J)
          case atStart => exact ⟨0, 0, A3, c3, ys, ⟨Nat.zero_le _, by omega, by omega, by simpa using HYS0.out, by omega, HO1.out, HBI.out⟩, rfl, rfl⟩
          case round =>
            clear HYS0 HO1 HBI
            obtain ⟨ii, J, A3, c3, ys, ⟨hii, hJ, hg3, hys, hyl, hli2, hbel2⟩, rfl, rfl⟩ := hrel
            obtain ⟨wi, rfl⟩ : ∃ wi : World, wi = wr := ⟨_, rfl⟩
            have HYS := Lib.hid hys
            have HO := Lib.hid hli2
            have HBI2 := Lib.hid hbel2
            have hHB2 := hbel2.size
            clear hys hli2 hbel2
            by_cases hi0 : ii = 0
            · subst hi0
              obtain rfl : J = 0 := by omega
              have hix : ∀ w, (Instr.index 117 (.agg #[.int .i64 r, .int .i64 (r + m)]) (.int .i64 0)).run Try.prog w = .ok (.int .i64 r) w := fun _ => by kernel_rfl
              clear hJ
              have hx0 : 0 ≤ r := by omega
              have hx1 : r ≤ 1000000000 := by omega
              have hsq : 0 ≤ r * r ∧ r * r ≤ 1000000000 * 1000000000 := ⟨Int.mul_nonneg hx0 hx0, Int.mul_le_mul hx1 hx1 hx0 (by omega)⟩
              obtain ⟨hsq1, hsq2⟩ := hsq
              cases hP : okR u m r with
              | true =>
                have hPb : ((r * r - u).tmod (2 * m) == 0) = true := hP
                have HYN : Hid (ys ++ [r] = (zs.take kk).flatMap (cand u m) ++ ([r, r + m].take 1).filter (okR u m)) := Lib.hid (by
                  rw [HYS.out, List.append_assoc]; congr 1; simp [hP, List.filter_cons]; try (split <;> simp))
                clear hP
                go_wp2_with (at_builtin; refine wpList_append_own _ rfl _ _ 26 rfl wo.heap.size 3 i0 (.int .i64 0) 1 8 Try.underlying26 hi hz0 hz1 hz2 rfl (by decide) _ _ _ rfl (HO.out.alloc _) ⟨wi.heap.size, 0, none⟩ 1 1 [.int .i64 r] rfl rfl (new_one _ _ _ _ rfl) (by intro u hu; simp at hu; subst hu; rfl) (by unfold maxLen; omega) (by omega) (by have := HBI2.out.size; simp; omega) ?_)
                intro v2 w2 hown2 hgrow2 _
                have hbel3 : Below wo.heap.size wo w2 := (HBI2.out.alloc HBI2.out.size _).grown hgrow2 (by have := HBI2.out.size; simp; omega) (fun j hj => HO.out.lt_own j hj)
                have hown3 : w2.ownsRow wo.heap.size 3 1 v2 (ys ++ [r]).length (ivs (ys ++ [r])) := by
                  rw [ivs_append, List.length_append]; exact hown2
                obtain ⟨A4, c4, rfl, hli4⟩ := LI.of hown3
                have HO4 := Lib.hid hli4
                have HB4 := Lib.hid hbel3
                have hyl4 : (ys ++ [r]).length ≤ 2 * kk + 1 := by simp; omega
                clear hown2 hgrow2 hown3 hbel3 hli4 HO HBI2
                go_wp2
                go_roundg (2 - 1)
                case rel => exact ⟨1, 1, A4, c4, ys ++ [r], ⟨by omega, by omega, by omega, HYN.out, hyl4, HO4.out, HB4.out⟩, rfl, by go_num⟩
                case measure => omega
              | false =>
                have hPb : ((r * r - u).tmod (2 * m) == 0) = false := hP
                have HYN : Hid (ys = (zs.take kk).flatMap (cand u m) ++ ([r, r + m].take 1).filter (okR u m)) := Lib.hid (by
                  rw [HYS.out]; congr 1; simp [hP, List.filter_cons])
                clear hP
                go_wp2
                go_roundg (2 - 1)
                case rel => exact ⟨1, 1, A3, c3, ys, ⟨by omega, by omega, by omega, HYN.out, by omega, HO.out, HBI2.out⟩, rfl, by go_num⟩
                case measure => omega
            · by_cases hi1' : ii = 1
              · subst hi1'
                obtain rfl : J = 1 := by omega
                have hix : ∀ w, (Instr.index 117 (.agg #[.int .i64 r, .int .i64 (r + m)]) (.int .i64 1)).run Try.prog w = .ok (.int .i64 (r + m)) w := fun _ => by kernel_rfl
                clear hJ
                have hx0 : 0 ≤ r + m := by omega
                have hx1 : r + m ≤ 1000000000 := by omega
                have hsq : 0 ≤ (r + m) * (r + m) ∧ (r + m) * (r + m) ≤ 1000000000 * 1000000000 := ⟨Int.mul_nonneg hx0 hx0, Int.mul_le_mul hx1 hx1 hx0 (by omega)⟩
                obtain ⟨hsq1, hsq2⟩ := hsq
                cases hP : okR u m (r + m) with
                | true =>
                  have hPb : (((r + m) * (r + m) - u).tmod (2 * m) == 0) = true := hP
                  have HYN : Hid (ys ++ [r + m] = (zs.take kk).flatMap (cand u m) ++ ([r, r + m].take 2).filter (okR u m)) := Lib.hid (by
                    rw [HYS.out, List.append_assoc]; congr 1; simp [hP, List.filter_cons]; try (split <;> simp))
                  clear hP
                  go_wp2_with (at_builtin; refine wpList_append_own _ rfl _ _ 26 rfl wo.heap.size 3 i0 (.int .i64 0) 1 8 Try.underlying26 hi hz0 hz1 hz2 rfl (by decide) _ _ _ rfl (HO.out.alloc _) ⟨wi.heap.size, 0, none⟩ 1 1 [.int .i64 (r + m)] rfl rfl (new_one _ _ _ _ rfl) (by intro u hu; simp at hu; subst hu; rfl) (by unfold maxLen; omega) (by omega) (by have := HBI2.out.size; simp; omega) ?_)
                  intro v2 w2 hown2 hgrow2 _
                  have hbel3 : Below wo.heap.size wo w2 := (HBI2.out.alloc HBI2.out.size _).grown hgrow2 (by have := HBI2.out.size; simp; omega) (fun j hj => HO.out.lt_own j hj)
                  have hown3 : w2.ownsRow wo.heap.size 3 1 v2 (ys ++ [r + m]).length (ivs (ys ++ [r + m])) := by
                    rw [ivs_append, List.length_append]; exact hown2
                  obtain ⟨A4, c4, rfl, hli4⟩ := LI.of hown3
                  have HO4 := Lib.hid hli4
                  have HB4 := Lib.hid hbel3
                  have hyl4 : (ys ++ [r + m]).length ≤ 2 * kk + 2 := by simp; omega
                  clear hown2 hgrow2 hown3 hbel3 hli4 HO HBI2
                  go_wp2
                  go_roundg (2 - 2)
                  case rel => exact ⟨2, 2, A4, c4, ys ++ [r + m], ⟨by omega, by omega, by omega, HYN.out, hyl4, HO4.out, HB4.out⟩, rfl, by go_num⟩
                  case measure => omega
                | false =>
                  have hPb : (((r + m) * (r + m) - u).tmod (2 * m) == 0) = false := hP
                  have HYN : Hid (ys = (zs.take kk).flatMap (cand u m) ++ ([r, r + m].take 2).filter (okR u m)) := Lib.hid (by
                    rw [HYS.out]; congr 1; simp [hP, List.filter_cons])
                  clear hP
                  go_wp2
                  go_roundg (2 - 2)
                  case rel => exact ⟨2, 2, A3, c3, ys, ⟨by omega, by omega, by omega, HYN.out, by omega, HO.out, HBI2.out⟩, rfl, by go_num⟩
                  case measure => omega
              · have hi2' : ii = 2 := by omega
                subst hi2'
                obtain rfl : J = 2 := by omega
                clear hJ
                have HYN : Hid (ys = (zs.take (kk + 1)).flatMap (cand u m)) := Lib.hid (by rw [take_flat hkz, HYS.out, EX.out]; rfl)
                go_wp2
                go_roundg (zs.length - (kk + 1))
                case rel => exact ⟨kk + 1, A3, c3, ys, ⟨by omega, by omega, HYN.out, by omega, HO.out, HBI2.out⟩, rfl, by go_num⟩
                case measure => omega
        · have hkk : kk = zs.length := by omega
          subst hkk
          have HN : Hid (IR u (m * 2) ys) := Lib.hid (by rw [HYS0.out, List.take_length, Int.mul_comm]; exact HR.out.step hm1)
          go_wp2
          go_roundg (e - (i + 1))
          case rel => exact ⟨i + 1, m * 2, A3, c3, ys, ⟨by omega, by omega, by omega, by rw [Int.pow_succ, ← HM.out], HN.out, by omega, HO1.out.mono hHB, HB.out.trans (HBI.out.mono hHB)⟩, rfl, by go_num⟩
          case measure => omega
    · have hie2 : i = e := by omega
      have hmq : m = q := by rw [HM.out, ← HQ.out, hie2]
      have HS := Lib.hid (srt_rts (by exact HR.out.1) (by exact HR.out.2))
      subst hie2 hmq
      go_wp2_with (go_at_call 79; fail)
      refine (sort_own w.heap.size zs.length _ zs _ HL.out (by omega)).mono ?_
      rintro e2 w2 ⟨rfl, hown, hgr⟩
      have HO := Lib.hid hown
      have HB1 : Hid (Below w.heap.size w w2) := Lib.hid (HB.out.grown hgr HB.out.size (fun j hj => (HL.out.lt_own j hj)))
      clear hown hgr
      go_wp2
      go_ret
      exact ⟨⟨_, _, rfl, HS.out, by rw [srt_length]; omega, by rw [srt_length]; exact HO.out⟩, HB1.out⟩
end Go.Proofs.Ytgbnmnkgelklbaa.He
namespace Go.Proofs.Ytgbnmnkgelklbaa.He
open Nt
set_option linter.unusedVariables false
theorem pr_sq {p x : Int} (hp : Pr p.toNat) (h2 : 2 ≤ p) (h : p ∣ x * x) : p ∣ x := by
  have h' : (p.toNat : Int) ∣ x * x := by rw [Int.toNat_of_nonneg (by omega)]; exact h
  rcases hp.dvd_mul_int h' with h3 | h3 <;> rw [Int.toNat_of_nonneg (by omega)] at h3 <;> exact h3
theorem sq_down {p y : Int} {e : Nat} (h2 : 2 ≤ p) (h : p ^ (e + 2) ∣ (p * y) * (p * y)) : p ^ e ∣ y * y := by
  obtain ⟨c, hc⟩ := h
  refine ⟨c, ?_⟩
  have e1 : p * p * (y * y) = p * p * (p ^ e * c) := by
    have e2 : p ^ (e + 2) = p * p * p ^ e := by rw [Int.pow_add, Int.mul_comm]; congr 1; rw [Int.pow_succ, Int.pow_one]
    rw [e2] at hc
    grind
  exact Int.eq_of_mul_eq_mul_left (by have := Int.mul_pos (show 0 < p by omega) (show 0 < p by omega); omega) e1
theorem even_dvd {p : Int} (hp : Pr p.toNat) (h2 : 2 ≤ p) : ∀ (n : Nat) (x : Int), p ^ (2 * n) ∣ x * x → p ^ n ∣ x := by
  intro n
  induction n with
  | zero => intro x _; simp
  | succ n ih =>
    intro x h
    have hx : p ∣ x := pr_sq hp h2 (Int.dvd_trans (p_dvd_pow (k := 2 * (n + 1)) (by omega)) h)
    obtain ⟨y, rfl⟩ := hx
    have h3 : p ^ n ∣ y := ih y (sq_down h2 (by rw [show 2 * n + 2 = 2 * (n + 1) from by omega]; exact h))
    rw [Int.pow_succ, Int.mul_comm p y]
    exact Int.mul_dvd_mul h3 (Int.dvd_refl p)
theorem odd_dvd {p : Int} (hp : Pr p.toNat) (h2 : 2 ≤ p) : ∀ (n : Nat) (x : Int), p ^ (2 * n + 1) ∣ x * x → p ^ (n + 1) ∣ x := by
  intro n
  induction n with
  | zero => intro x h; rw [Int.pow_one]; rw [show 2 * 0 + 1 = 1 from rfl, Int.pow_one] at h; exact pr_sq hp h2 h
  | succ n ih =>
    intro x h
    have hx : p ∣ x := pr_sq hp h2 (Int.dvd_trans (p_dvd_pow (k := 2 * (n + 1) + 1) (by omega)) h)
    obtain ⟨y, rfl⟩ := hx
    have h3 : p ^ (n + 1) ∣ y := ih y (sq_down h2 (by rw [show 2 * n + 1 + 2 = 2 * (n + 1) + 1 from by omega]; exact h))
    rw [Int.pow_succ, Int.mul_comm p y]
    exact Int.mul_dvd_mul h3 (Int.dvd_refl p)
/-- the roots of a modulo q are what is congruent modulo s to one of the list -/
def FR (a q s : Int) (zs : List Int) : Prop := zs.Pairwise (· < ·) ∧ 1 ≤ s ∧ s ∣ q ∧ (∀ z ∈ zs, 0 ≤ z ∧ z < s) ∧ ∀ x, q ∣ x * x - a ↔ x % s ∈ zs
theorem fr_zero {p : Int} {k : Nat} (hp : Pr p.toNat) (h2 : 2 ≤ p) : FR 0 (p ^ k) (p ^ (k - k / 2)) [0] := by
  have hs : 0 < p ^ (k - k / 2) := Int.pow_pos (by omega)
  refine ⟨by simp, by omega, pow_dvd (by omega), by simp; omega, fun x => ?_⟩
  rw [Int.sub_zero, List.mem_singleton]
  constructor
  · intro h
    apply Int.emod_eq_zero_of_dvd
    rcases Nat.mod_two_eq_zero_or_one k with h0 | h0
    · have e1 : k = 2 * (k / 2) := by omega
      have e2 : k - k / 2 = k / 2 := by omega
      rw [e2]
      rw [e1] at h
      exact even_dvd hp h2 _ x h
    · have e1 : k = 2 * (k / 2) + 1 := by omega
      have e2 : k - k / 2 = k / 2 + 1 := by omega
      rw [e2]
      rw [e1] at h
      exact odd_dvd hp h2 _ x h
  · intro h
    have hd := Int.dvd_of_emod_eq_zero h
    have := Int.mul_dvd_mul hd hd
    rw [← Int.pow_add] at this
    exact Int.dvd_trans (pow_dvd (by omega)) this
theorem fr_odd {p u : Int} {k n : Nat} (hp : Pr p.toNat) (h2 : 2 ≤ p) (hu : ¬ p ∣ u) (hn : 2 * n + 1 < k) : FR (u * p ^ (2 * n + 1)) (p ^ k) (p ^ k) [] := by
  have hs : 0 < p ^ k := Int.pow_pos (by omega)
  refine ⟨by simp, by omega, Int.dvd_refl _, by simp, fun x => ?_⟩
  constructor
  · intro h
    exfalso
    have h3 : p ^ (2 * n + 1) ∣ x * x := by
      have := Int.dvd_add (Int.dvd_trans (pow_dvd (p := p) (show 2 * n + 1 ≤ k by omega)) h) (Int.dvd_mul_left u (p ^ (2 * n + 1)))
      rw [Int.sub_add_cancel] at this; exact this
    have h4 := odd_dvd hp h2 n x h3
    have h5 : p ^ (2 * n + 2) ∣ x * x := by
      have := Int.mul_dvd_mul h4 h4
      rw [← Int.pow_add, show n + 1 + (n + 1) = 2 * n + 2 from by omega] at this; exact this
    have h6 : p ^ (2 * n + 2) ∣ u * p ^ (2 * n + 1) := by
      have := Int.dvd_sub h5 (Int.dvd_trans (pow_dvd (p := p) (show 2 * n + 2 ≤ k by omega)) h)
      have e : x * x - (x * x - u * p ^ (2 * n + 1)) = u * p ^ (2 * n + 1) := by omega
      rw [e] at this; exact this
    obtain ⟨c, hc⟩ := h6
    refine hu ⟨c, ?_⟩
    have hpp : 0 < p ^ (2 * n + 1) := Int.pow_pos (by omega)
    rw [Int.pow_succ p (2 * n + 1)] at hc
    refine Int.eq_of_mul_eq_mul_left (a := p ^ (2 * n + 1)) (by omega) ?_
    rw [Int.mul_comm, hc, Int.mul_assoc]
  · intro h; cases h
theorem fr_even {p u : Int} {k n : Nat} {zs : List Int} (hp : Pr p.toNat) (h2 : 2 ≤ p) (hn : 2 * n ≤ k) (h : IsRts u (p ^ (k - 2 * n)) zs) : FR (u * p ^ (2 * n)) (p ^ k) (p ^ (k - 2 * n) * p ^ n) (zs.map (· * p ^ n)) := by
  have hs : 0 < p ^ n := Int.pow_pos (by omega)
  have ht : 0 < p ^ (k - 2 * n) := Int.pow_pos (by omega)
  have hq : p ^ k = p ^ (k - 2 * n) * (p ^ n * p ^ n) := by rw [← Int.pow_add, ← Int.pow_add]; congr 1; omega
  have ha : p ^ (2 * n) = p ^ n * p ^ n := by rw [← Int.pow_add]; congr 1; omega
  rw [hq, ha]
  have HP2 : ∀ x, p ^ n * p ^ n ∣ x * x → p ^ n ∣ x := fun x hx => even_dvd hp h2 n x (by rw [ha]; exact hx)
  generalize p ^ n = s at *
  generalize p ^ (k - 2 * n) = t at *
  obtain ⟨h3, h4⟩ := h
  refine ⟨?_, ?_, ⟨s, by grind⟩, ?_, fun x => ?_⟩
  · rw [List.pairwise_map]
    exact h3.imp (fun {a b} hab => Int.mul_lt_mul_of_pos_right hab hs)
  · have := Int.mul_pos ht hs; omega
  · intro z hz
    obtain ⟨y, hy, rfl⟩ := List.mem_map.1 hz
    obtain ⟨y1, y2, -⟩ := (h4 y).1 hy
    exact ⟨Int.mul_nonneg y1 (by omega), Int.mul_lt_mul_of_pos_right y2 hs⟩
  · have key : ∀ y, t ∣ y * y - u ↔ y % t ∈ zs := fun y => by
      rw [h4]
      have e0 := Int.emod_nonneg y (b := t) (by omega)
      have e1 := Int.emod_lt_of_pos y ht
      have e2 : t ∣ y * y - y % t * (y % t) := by
        have e := Int.mul_ediv_add_emod y t
        have : y * y - y % t * (y % t) = (y - y % t) * (y + y % t) := by grind
        rw [this]
        have e3 : y - y % t = t * (y / t) := by omega
        rw [e3, Int.mul_assoc]; exact Int.dvd_mul_right _ _
      constructor
      · intro h5
        have := Int.dvd_sub h5 e2
        have e4 : y * y - u - (y * y - y % t * (y % t)) = y % t * (y % t) - u := by omega
        rw [e4] at this
        exact ⟨e0, e1, this⟩
      · rintro ⟨-, -, h5⟩
        have := Int.dvd_add h5 e2
        have e4 : y % t * (y % t) - u + (y * y - y % t * (y % t)) = y * y - u := by omega
        rw [e4] at this; exact this
    have hss : s * s ≠ 0 := by have := Int.mul_pos hs hs; omega
    rw [List.mem_map]
    constructor
    · intro h5
      have h6 : s * s ∣ x * x := by
        have := Int.dvd_add (Int.dvd_trans (Int.dvd_mul_left t (s * s)) h5) (Int.dvd_mul_left u (s * s))
        rw [Int.sub_add_cancel] at this; exact this
      obtain ⟨y, rfl⟩ := HP2 x h6
      refine ⟨y % t, (key y).1 ?_, ?_⟩
      · obtain ⟨c, hc⟩ := h5
        refine ⟨c, Int.eq_of_mul_eq_mul_left hss ?_⟩
        have e : s * y * (s * y) - u * (s * s) = s * s * (y * y - u) := by grind
        rw [e] at hc; rw [hc]; grind
      · rw [Int.mul_comm t s, Int.mul_emod_mul_of_pos _ _ hs, Int.mul_comm]
    · rintro ⟨z, hz, he⟩
      have hx : s ∣ x := by
        have e := Int.mul_ediv_add_emod x (t * s)
        rw [← e, ← he]
        exact Int.dvd_add (Int.dvd_mul_of_dvd_left (Int.dvd_mul_left t s)) (Int.dvd_mul_left z s)
      obtain ⟨y, rfl⟩ := hx
      rw [Int.mul_comm t s, Int.mul_emod_mul_of_pos _ _ hs, Int.mul_comm] at he
      have hzy : z = y % t := Int.eq_of_mul_eq_mul_left (by omega) he
      obtain ⟨c, hc⟩ := (key y).2 (by rw [← hzy]; exact hz)
      refine ⟨c, ?_⟩
      have e : s * y * (s * y) - u * (s * s) = s * s * (y * y - u) := by grind
      rw [e, hc]; grind
end Go.Proofs.Ytgbnmnkgelklbaa.He
namespace Go.Proofs.Ytgbnmnkgelklbaa.He
open Nt
open Go.RowKit
open Ws (new_one infoI)
set_option linter.unusedVariables false
set_option linter.unusedSimpArgs false
set_option maxRecDepth 100000
theorem LI.set {B b j : Nat} {w : World} {c : Nat} {zs : List Int} (h : LI B w (some ⟨b, 0, none⟩) c zs) (hj : j < zs.length) (y : Int) : LI B (w.setCell ⟨b, j, none⟩ (.int .i64 y)) (some ⟨b, 0, none⟩) c (zs.set j y) := by
  unfold LI at h ⊢
  rw [List.length_set]
  refine ⟨by simp [ivs], ?_⟩
  rcases h.2 with ⟨h0, h1⟩ | ⟨g, cap, cur, hv, h5, hg, h1, h2, h3, h4⟩
  · cases h0
  · injection hv with e1 e2 e3
    injection e1 with e1
    injection e1 with e1
    subst e1 e3
    refine .inr ⟨b, c, cur.set! j (.int .i64 y), rfl, h5, ?_, h1, h2, by simpa using h3, ?_⟩
    · simp only [World.setCell, Array.getElem?_modify, hg]
      simp
    · rw [Nat.mul_one] at h4 ⊢
      have : (cur.set! j (.int .i64 y)).toList.take zs.length = (cur.toList.take zs.length).set j (.int .i64 y) := by simp [List.take_set]
      rw [this, h4]
      simp [ivs, List.map_set]
theorem LI.frozen {B b : Nat} {w : World} {c : Nat} {zs : List Int} (h : LI B w (some ⟨b, 0, none⟩) c zs) (j : Nat) : w.frozen? ⟨b, j, none⟩ = false := by
  rcases h.2 with ⟨h0, h1⟩ | ⟨g, cap, cur, hv, h5, hg, h1, h2, h3, h4⟩
  · cases h0
  · injection hv with e1 e2 e3
    injection e1 with e1
    injection e1 with e1
    subst e1
    simp [World.frozen?, hg]
def mulI (s : Int) (i : Nat) (zs : List Int) : List Int := (zs.take i).map (· * s) ++ zs.drop i
theorem mulI_len (s : Int) (i : Nat) (zs : List Int) : (mulI s i zs).length = zs.length := by simp [mulI]; omega
theorem mulI_get {s : Int} {i : Nat} {zs : List Int} (h : i < zs.length) (h' : i < (mulI s i zs).length) : (mulI s i zs)[i] = zs[i] := by
  simp [mulI, List.getElem_append, Nat.min_eq_left (Nat.le_of_lt h)]
theorem mulI_set {s : Int} {i : Nat} {zs : List Int} (h : i < zs.length) : (mulI s i zs).set i (zs[i] * s) = mulI s (i + 1) zs := by
  unfold mulI
  rw [List.set_append_right _ _ (by simp; omega)]
  have e : i - ((zs.take i).map (· * s)).length = 0 := by simp; omega
  rw [e, List.drop_eq_getElem_cons h, List.set_cons_zero, List.take_succ_eq_append_getElem h, List.map_append]
  simp
theorem raise_at (p e : Int) (n : Nat) (w : World) (he : e = n) (hp : 1 ≤ p) (hp2 : p ≤ 1000000000) (h : p ^ n ≤ 1000000000) (hn : n ≤ 9223372036854775807) :
    Calls Try.prog 76 #[.int .i64 p, .int .i64 e] w fun e w' => e = .returned (.int .i64 (p ^ n)) ∧ w = w' := by
  subst he; exact raise_any p n w hp hp2 h hn
def FrOut (w : World) (a q : Int) (e : Ending) (w' : World) : Prop := (∃ (A : Option Addr) (c : Nat) (zs : List Int) (s : Int), e = .returned (.tuple #[.slice A zs.length c, .int .i64 s]) ∧ FR a q s zs ∧ zs.length ≤ 1000000000 ∧ LI w.heap.size w' A c zs) ∧ Below w.heap.size w w'
theorem split_lem {a u p : Int} {j k : Nat} (h2 : 2 ≤ p) (ha : a = u * p ^ j) (hu : 0 < u) (h1 : a < p ^ k) : j < k ∧ u < p ^ (k - j) := by
  have hpj : 0 < p ^ j := Int.pow_pos (by omega)
  have hle : 1 * p ^ j ≤ u * p ^ j := Int.mul_le_mul_of_nonneg_right (by omega) (by omega)
  have hjk : j < k := by
    rcases Nat.lt_or_ge j k with h | h
    · exact h
    · have := pow_mono (p := p) (by omega) h
      omega
  refine ⟨hjk, ?_⟩
  have hq : p ^ k = p ^ (k - j) * p ^ j := by rw [← Int.pow_add]; congr 1; omega
  rw [ha, hq] at h1
  exact Int.lt_of_mul_lt_mul_right h1 (by omega)
set_option maxHeartbeats 4000000 in
theorem first_any (a p : Int) (k : Nat) (w : World) (hp : Pr p.toNat) (h2 : 2 ≤ p) (hpm : p ≤ 1000000000) (hk : 1 ≤ k) (hk3 : k ≤ 40) (hq : p ^ k ≤ 1000000000) (h0 : 0 ≤ a) (h1 : a < p ^ k) :
    Calls Try.prog 75 #[.int .i64 a, .int .i64 p, .int .i64 k, .int .i64 (p ^ k)] w fun e w' => FrOut w a (p ^ k) e w' := by
  by_cases ha : a = 0
  · subst ha
    have HF := Lib.hid (fr_zero (k := k) hp h2)
    have HRA : Hid (∀ e : Int, e = ((k - k / 2 : Nat) : Int) → ∀ w : World, Calls Try.prog 76 #[.int .i64 p, .int .i64 e] w fun e' w' => e' = .returned (.int .i64 (p ^ (k - k / 2))) ∧ w = w') := Lib.hid (fun e he w => raise_at p e _ w he (by omega) hpm (by have := pow_mono (p := p) (by omega) (show k - k / 2 ≤ k by omega); omega) (by omega))
    have hown0 := World.ownsRow_lit (base := w.heap.size) (size := 1) (e := 3) w #[Value.int IntKind.i64 0] 1 (Nat.le_refl _) (by unfold maxLen; omega) rfl
    have hB0 : Below w.heap.size w (w.alloc (Obj.cells #[Value.int IntKind.i64 0] 3)) := (Below.refl _ _).alloc (Nat.le_refl _) _
    have HO0 : Hid (LI w.heap.size (w.alloc (Obj.cells #[Value.int IntKind.i64 0] 3)) (some ⟨w.heap.size, 0, none⟩) 1 [0]) := Lib.hid hown0
    have HB0 := Lib.hid hB0
    clear hown0 hB0 hp
    generalize p ^ (k - k / 2) = s at *
    generalize p ^ k = q at *
    go_enter Try.func75, Try.ntmps75
    go_wp2_with (go_at_call 76; refine (HRA.out _ (by omega) _).mono ?_; rintro e w2 ⟨rfl, rfl⟩)
    go_ret2
    exact ⟨⟨_, _, [0], s, rfl, HF.out, by simp, HO0.out⟩, HB0.out⟩
  · have hab : ((a : Int) == 0) = false := by rw [beq_eq_false_iff_ne]; exact ha
    have HST := Lib.hid (strip_any a p w ha h2 (by omega) (by omega) (by omega))
    have ha0 : 0 < a := by omega
    have HPR := Lib.hid hp
    clear ha hp
    obtain ⟨q, hqq⟩ : ∃ q, p ^ k = q := ⟨_, rfl⟩
    have HQ := Lib.hid hqq
    rw [hqq] at hq h1 ⊢
    clear hqq
    go_enter Try.func75, Try.ntmps75
    go_wp2_with (go_at_call 55; fail)
    refine HST.out.mono ?_
    rintro e w2 ⟨⟨u, j, rfl, ⟨s1, s2, s3, s4⟩, hnu⟩, rfl⟩
    have hu0 : 0 < u := s4.1 ha0
    obtain ⟨hjk, hut⟩ := split_lem h2 s1 hu0 (by rw [HQ.out]; exact h1)
    have HS1 := Lib.hid s1
    have HNU := Lib.hid hnu
    have HUT := Lib.hid hut
    clear s1 s2 s3 s4 hnu hut HST
    by_cases hodd : j % 2 = 1
    · obtain ⟨n, rfl⟩ : ∃ n, j = 2 * n + 1 := ⟨j / 2, by omega⟩
      have HF : Hid (FR a q q []) := Lib.hid (by rw [HS1.out, ← HQ.out]; exact fr_odd HPR.out h2 HNU.out hjk)
      have hjm : ((2 * n + 1 : Nat) : Int) % 2 = 1 := by omega
      go_wp2
      go_ret2
      exact ⟨⟨none, 0, [], q, rfl, HF.out, by simp, LI.nil_ _ _⟩, Below.refl _ _⟩
    · obtain ⟨n, rfl⟩ : ∃ n, j = 2 * n := ⟨j / 2, by omega⟩
      have hjm : ((2 * n : Nat) : Int) % 2 = 0 := by omega
      have HRA : Hid (∀ e : Int, e = (n : Int) → Calls Try.prog 76 #[.int .i64 p, .int .i64 e] w fun e' w' => e' = .returned (.int .i64 (p ^ n)) ∧ w = w') := Lib.hid (fun e he => raise_at p e _ w he (by omega) hpm (by have := pow_mono (p := p) (by omega) (show n ≤ k by omega); rw [HQ.out] at this; omega) (by omega))
      have HFE : Hid (∀ zs, IsRts u (p ^ (k - 2 * n)) zs → FR a q (p ^ (k - 2 * n) * p ^ n) (zs.map (· * p ^ n))) := Lib.hid (fun zs h => by
        rw [HS1.out, ← HQ.out]; exact fr_even HPR.out h2 (by omega) h)
      have hqt : q = p ^ (k - 2 * n) * (p ^ n * p ^ n) := by rw [← HQ.out, ← Int.pow_add, ← Int.pow_add]; congr 1; omega
      have hsc : 1 ≤ p ^ n := by have : 0 < p ^ n := Int.pow_pos (by omega); omega
      have htt : 1 ≤ p ^ (k - 2 * n) := by have : 0 < p ^ (k - 2 * n) := Int.pow_pos (by omega); omega
      have htq : p ^ (k - 2 * n) ≤ q := by rw [← HQ.out]; exact pow_mono (by omega) (by omega)
      clear hodd
      by_cases hp2 : p = 2
      · subst hp2
        have HUR : Hid (Calls Try.prog 77 #[.int .i64 u, .int .i64 (2 ^ (k - 2 * n))] w fun e w' => RtOut w u (2 ^ (k - 2 * n)) 1000000000 e w') := Lib.hid (two_any u (k - 2 * n) w (by omega) (by omega) (by omega) HUT.out (by have := HNU.out; omega))
        have hpb : ((2 : Int) == 2) = true := rfl
        generalize (2 : Int) ^ n = sc at *
        generalize (2 : Int) ^ (k - 2 * n) = t at *
        have hts0 : 0 ≤ t * sc := Int.mul_nonneg (by omega) (by omega)
        have hts1 : t * sc ≤ q := by
          have h5 : t * sc * 1 ≤ t * sc * sc := Int.mul_le_mul_of_nonneg_left hsc hts0
          rw [hqt, ← Int.mul_assoc]; omega
        have hd1 : q / sc = t * sc := by rw [hqt, ← Int.mul_assoc]; exact Int.mul_ediv_cancel _ (by omega)
        have hd2 : t * sc / sc = t := Int.mul_ediv_cancel _ (by omega)
        clear hqt HUT
        go_wp2_with (first | (go_at_call 76; refine (HRA.out _ (by omega)).mono ?_; rintro e w2 ⟨rfl, rfl⟩) | (go_at_call 77; fail))
        refine HUR.out.mono ?_
        rintro e w2 ⟨⟨v, zs, rfl, hrt, hzl, hown⟩, hbel⟩
        obtain ⟨A, c, rfl, hli⟩ := LI.of hown
        have HF := Lib.hid (HFE.out zs hrt)
        have HZ : Hid (∀ z ∈ zs, 0 ≤ z ∧ z < t) := Lib.hid (fun z hz => by obtain ⟨z1, z2, -⟩ := (hrt.2 z).1 hz; exact ⟨z1, z2⟩)
        have HL := Lib.hid hli
        have HB := Lib.hid hbel
        have HD2 := Lib.hid hd2
        clear hrt hown hli hbel hd1 hd2 HUR HRA HFE
        go_wp2
        go_loopg [54] zs.length (fun gg t54 wr => ∃ (ii : Nat), (ii ≤ zs.length ∧ zs.length - ii ≤ gg ∧ LI w.heap.size wr A c (mulI sc ii zs) ∧ Below w.heap.size w wr) ∧ t54 = .int .i64 ii)
        case atStart => exact ⟨0, ⟨Nat.zero_le _, by omega, by simpa [mulI] using HL.out, HB.out⟩, rfl⟩
        case round =>
          obtain ⟨ii, ⟨hi, hg, hli, hbel⟩, rfl⟩ := hrel
          obtain ⟨wi, rfl⟩ : ∃ wi : World, wi = wr := ⟨_, rfl⟩
          have HL2 := Lib.hid hli
          have HB2 := Lib.hid hbel
          clear hli hbel HL HB
          by_cases hlt : ii < zs.length
          · obtain ⟨b, x, rfl, EX, hcell, hb1, hb2⟩ := HL2.out.at_ (j := ii) (by rw [mulI_len]; exact hlt)
            have EX2 : Hid (zs[ii] = x) := Lib.hid (by rw [← mulI_get (s := sc) hlt (by rw [mulI_len]; exact hlt)]; exact EX.out)
            have hx := HZ.out x (by rw [← EX2.out]; exact List.getElem_mem hlt)
            obtain ⟨hx0, hx1⟩ := hx
            have hxs0 : 0 ≤ x * sc := Int.mul_nonneg hx0 (by omega)
            have hxs1 : x * sc ≤ t * sc := Int.mul_le_mul_of_nonneg_right (by omega) (by omega)
            have HLN : Hid (LI w.heap.size (wi.setCell ⟨b, ii, none⟩ (.int .i64 (x * sc))) (some ⟨b, 0, none⟩) c (mulI sc (ii + 1) zs)) := Lib.hid (by
              rw [← mulI_set hlt, EX2.out]; exact HL2.out.set (by rw [mulI_len]; exact hlt) _)
            have HBN : Hid (Below w.heap.size w (wi.setCell ⟨b, ii, none⟩ (.int .i64 (x * sc)))) := Lib.hid (HB2.out.setCell hb1 _)
            have hfz := HL2.out.frozen ii
            go_wp2
            go_roundg (zs.length - (ii + 1))
            case rel => exact ⟨ii + 1, ⟨by omega, by omega, HLN.out, HBN.out⟩, by go_num⟩
            case measure => omega
          · have hil : ii = zs.length := by omega
            subst hil
            have HLZ : Hid (LI w.heap.size wi A c (zs.map (· * sc))) := Lib.hid (by have := HL2.out; simpa [mulI] using this)
            have hd2 := HD2.out
            go_wp2
            go_ret2
            exact ⟨⟨A, c, zs.map (· * sc), t * sc, by simp, HF.out, by simp; omega, HLZ.out⟩, HB2.out⟩
      · have HUR : Hid (Calls Try.prog 78 #[.int .i64 u, .int .i64 p, .int .i64 (p ^ (k - 2 * n))] w fun e w' => RtOut w u (p ^ (k - 2 * n)) 2 e w') := Lib.hid (uroots_any u p (k - 2 * n) w HPR.out (by omega) hpm (by omega) (by omega) (by omega) HUT.out HNU.out)
        have hpb : ((p : Int) == 2) = false := by rw [beq_eq_false_iff_ne]; exact hp2
        clear hp2
        generalize p ^ n = sc at *
        generalize p ^ (k - 2 * n) = t at *
        have hts0 : 0 ≤ t * sc := Int.mul_nonneg (by omega) (by omega)
        have hts1 : t * sc ≤ q := by
          have h5 : t * sc * 1 ≤ t * sc * sc := Int.mul_le_mul_of_nonneg_left hsc hts0
          rw [hqt, ← Int.mul_assoc]; omega
        have hd1 : q / sc = t * sc := by rw [hqt, ← Int.mul_assoc]; exact Int.mul_ediv_cancel _ (by omega)
        have hd2 : t * sc / sc = t := Int.mul_ediv_cancel _ (by omega)
        clear hqt HUT
        go_wp2_with (first | (go_at_call 76; refine (HRA.out _ (by omega)).mono ?_; rintro e w2 ⟨rfl, rfl⟩) | (go_at_call 78; fail))
        refine HUR.out.mono ?_
        rintro e w2 ⟨⟨v, zs, rfl, hrt, hzl, hown⟩, hbel⟩
        obtain ⟨A, c, rfl, hli⟩ := LI.of hown
        have HF := Lib.hid (HFE.out zs hrt)
        have HZ : Hid (∀ z ∈ zs, 0 ≤ z ∧ z < t) := Lib.hid (fun z hz => by obtain ⟨z1, z2, -⟩ := (hrt.2 z).1 hz; exact ⟨z1, z2⟩)
        have HL := Lib.hid hli
        have HB := Lib.hid hbel
        have HD2 := Lib.hid hd2
        clear hrt hown hli hbel hd1 hd2 HUR HRA HFE
        go_wp2
        go_loopg [54] zs.length (fun gg t54 wr => ∃ (ii : Nat), (ii ≤ zs.length ∧ zs.length - ii ≤ gg ∧ LI w.heap.size wr A c (mulI sc ii zs) ∧ Below w.heap.size w wr) ∧ t54 = .int .i64 ii)
        case atStart => exact ⟨0, ⟨Nat.zero_le _, by omega, by simpa [mulI] using HL.out, HB.out⟩, rfl⟩
        case round =>
          obtain ⟨ii, ⟨hi, hg, hli, hbel⟩, rfl⟩ := hrel
          obtain ⟨wi, rfl⟩ : ∃ wi : World, wi = wr := ⟨_, rfl⟩
          have HL2 := Lib.hid hli
          have HB2 := Lib.hid hbel
          clear hli hbel HL HB
          by_cases hlt : ii < zs.length
          · obtain ⟨b, x, rfl, EX, hcell, hb1, hb2⟩ := HL2.out.at_ (j := ii) (by rw [mulI_len]; exact hlt)
            have EX2 : Hid (zs[ii] = x) := Lib.hid (by rw [← mulI_get (s := sc) hlt (by rw [mulI_len]; exact hlt)]; exact EX.out)
            have hx := HZ.out x (by rw [← EX2.out]; exact List.getElem_mem hlt)
            obtain ⟨hx0, hx1⟩ := hx
            have hxs0 : 0 ≤ x * sc := Int.mul_nonneg hx0 (by omega)
            have hxs1 : x * sc ≤ t * sc := Int.mul_le_mul_of_nonneg_right (by omega) (by omega)
            have HLN : Hid (LI w.heap.size (wi.setCell ⟨b, ii, none⟩ (.int .i64 (x * sc))) (some ⟨b, 0, none⟩) c (mulI sc (ii + 1) zs)) := Lib.hid (by
              rw [← mulI_set hlt, EX2.out]; exact HL2.out.set (by rw [mulI_len]; exact hlt) _)
            have HBN : Hid (Below w.heap.size w (wi.setCell ⟨b, ii, none⟩ (.int .i64 (x * sc)))) := Lib.hid (HB2.out.setCell hb1 _)
            have hfz := HL2.out.frozen ii
            go_wp2
            go_roundg (zs.length - (ii + 1))
            case rel => exact ⟨ii + 1, ⟨by omega, by omega, HLN.out, HBN.out⟩, by go_num⟩
            case measure => omega
          · have hil : ii = zs.length := by omega
            subst hil
            have HLZ : Hid (LI w.heap.size wi A c (zs.map (· * sc))) := Lib.hid (by have := HL2.out; simpa [mulI] using this)
            have hd2 := HD2.out
            go_wp2
            go_ret2
            exact ⟨⟨A, c, zs.map (· * sc), t * sc, by simp, HF.out, by simp; omega, HLZ.out⟩, HB2.out⟩
end Go.Proofs.Ytgbnmnkgelklbaa.He
namespace Go.Proofs.Ytgbnmnkgelklbaa.He
open Nt
open Go.RowKit
open Ws (new_one infoI)
set_option linter.unusedVariables false
set_option linter.unusedSimpArgs false
set_option maxRecDepth 100000
/-- the first roots, moved by 0, s, .. (i - 1) s -/
def spread (s : Int) (zs : List Int) (i : Nat) : List Int := (List.range i).flatMap fun (j : Nat) => zs.map fun u => s * (j : Int) + u
theorem spread_succ (s : Int) (zs : List Int) (i : Nat) : spread s zs (i + 1) = spread s zs i ++ (zs.map fun u => s * (i : Int) + u) := by
  unfold spread; rw [List.range_succ, List.flatMap_append]; simp
theorem spread_len (s : Int) (zs : List Int) (i : Nat) : (spread s zs i).length = i * zs.length := by
  induction i with
  | zero => simp [spread]
  | succ i ih => rw [spread_succ, List.length_append, ih, List.length_map, Nat.succ_mul]
theorem spread_rts {a q s : Int} {zs : List Int} {N : Nat} (h : FR a q s zs) (hN : q = s * (N : Int)) : IsRts a q (spread s zs N) := by
  obtain ⟨h1, h2, h3, h4, h5⟩ := h
  refine ⟨?_, fun x => ?_⟩
  · unfold spread
    rw [List.pairwise_flatMap]
    refine ⟨fun j hj => ?_, ?_⟩
    · rw [List.pairwise_map]; exact h1.imp (by intro a b h; omega)
    · have : (List.range N).Pairwise (· < ·) := List.pairwise_lt_range
      refine this.imp ?_
      intro i j hij x hx y hy
      obtain ⟨u, hu, rfl⟩ := List.mem_map.1 hx
      obtain ⟨v, hv, rfl⟩ := List.mem_map.1 hy
      have hu2 := (h4 u hu).2
      have hv1 := (h4 v hv).1
      have : s * ((i : Int) + 1) ≤ s * (j : Int) := Int.mul_le_mul_of_nonneg_left (by omega) (by omega)
      rw [Int.mul_add, Int.mul_one] at this
      omega
  · unfold spread
    rw [List.mem_flatMap]
    constructor
    · rintro ⟨j, hj, hx⟩
      obtain ⟨u, hu, rfl⟩ := List.mem_map.1 hx
      obtain ⟨u1, u2⟩ := h4 u hu
      have hjN := List.mem_range.1 hj
      have hm : (s * (j : Int) + u) % s = u := by rw [Int.add_comm, Int.add_mul_emod_self_left, Int.emod_eq_of_lt u1 u2]
      have e0 : 0 ≤ s * (j : Int) := Int.mul_nonneg (by omega) (by omega)
      have e1 : s * ((j : Int) + 1) ≤ s * (N : Int) := Int.mul_le_mul_of_nonneg_left (by omega) (by omega)
      rw [Int.mul_add, Int.mul_one] at e1
      exact ⟨by omega, by omega, (h5 _).2 (by rw [hm]; exact hu)⟩
    · rintro ⟨x1, x2, x3⟩
      have hx := (h5 x).1 x3
      have e := Int.mul_ediv_add_emod x s
      have hd0 : 0 ≤ x / s := Int.ediv_nonneg x1 (by omega)
      have hd1 : x / s < N := Int.ediv_lt_of_lt_mul (by omega) (by rw [Int.mul_comm, ← hN]; exact x2)
      refine ⟨(x / s).toNat, List.mem_range.2 (by omega), List.mem_map.2 ⟨x % s, hx, ?_⟩⟩
      rw [Int.toNat_of_nonneg hd0]; exact e
theorem IsRts.mod {a q : Int} {zs : List Int} (h : IsRts (a % q) q zs) : IsRts a q zs := by
  refine ⟨h.1, fun x => (h.2 x).trans ?_⟩
  have e := Int.mul_ediv_add_emod a q
  have hd : q ∣ a - a % q := ⟨a / q, by omega⟩
  constructor
  · rintro ⟨h1, h2, h3⟩
    refine ⟨h1, h2, ?_⟩
    have := Int.dvd_sub h3 hd
    have e2 : x * x - a % q - (a - a % q) = x * x - a := by omega
    rw [e2] at this; exact this
  · rintro ⟨h1, h2, h3⟩
    refine ⟨h1, h2, ?_⟩
    have := Int.dvd_add h3 hd
    have e2 : x * x - a + (a - a % q) = x * x - a % q := by omega
    rw [e2] at this; exact this
/-- what Roots answers -/
def RoS (a p k : Int) (zs : List Int) (E : Int) : Prop := (ppE p k ≠ 0 ∧ zs = [] ∧ E = ppE p k) ∨ (ppE p k = 0 ∧ ∃ full, IsRts a (p ^ k.toNat) full ∧ ((full.length ≤ 1000 ∧ zs = full ∧ E = 0) ∨ (1000 < full.length ∧ zs = [] ∧ E = 8)))
def RoOut (w : World) (a p k : Int) (e : Ending) (w' : World) : Prop := (∃ (A : Option Addr) (c : Nat) (zs : List Int) (E : Int), e = .returned (.tuple #[.slice A zs.length c, .int .i64 E]) ∧ RoS a p k zs E ∧ LI w.heap.size w' A c zs) ∧ Below w.heap.size w w'
theorem pow_small {p : Int} {k : Nat} (h2 : 2 ≤ p) (h : p ^ k ≤ 1000000000) : k ≤ 40 := by
  rcases Nat.lt_or_ge k 41 with h1 | h1
  · omega
  · have h3 : p ^ 41 ≤ p ^ k := pow_mono (by omega) h1
    have h4 : (2 : Int) ^ 41 ≤ p ^ 41 := by
      have : ∀ n : Nat, (2 : Int) ^ n ≤ p ^ n := by
        intro n
        induction n with
        | zero => simp
        | succ n ih =>
          rw [Int.pow_succ, Int.pow_succ]
          exact Int.mul_le_mul ih h2 (by omega) (Int.pow_nonneg (by omega))
      exact this 41
    have : (2 : Int) ^ 41 = 2199023255552 := by decide
    omega
set_option maxHeartbeats 4000000 in
theorem Roots_any (a p k : Int) (w : World) (hk0 : -9223372036854775808 ≤ k) (hk2 : k ≤ 9223372036854775807) :
    Calls Try.prog 68 #[.int .i64 a, .int .i64 p, .int .i64 k] w fun e w' => RoOut w a p k e w' := by
  by_cases he : ppE p k = 0
  · obtain ⟨i0, hi, hz0, hz1, hz2⟩ := info_parts infoI
    obtain ⟨hp2, hpm, hpr, hk1, hq, hQ⟩ := pp_ok he
    have hq0 : 0 < p ^ k.toNat := Int.pow_pos (by omega)
    have HPP : Hid (Calls Try.prog 74 #[.int .i64 p, .int .i64 k] w fun e w' => e = .returned (.tuple #[.int .i64 (p ^ k.toNat), .int .i64 0]) ∧ w = w') := Lib.hid (by
      have h := pp_any p k w hk0 hk2
      rw [hQ, he] at h; exact h)
    have ha1 := Int.emod_nonneg a (b := p ^ k.toNat) (by omega)
    have ha2 := Int.emod_lt_of_pos a hq0
    have HFI : Hid (Calls Try.prog 75 #[.int .i64 (a % p ^ k.toNat), .int .i64 p, .int .i64 k, .int .i64 (p ^ k.toNat)] w fun e w' => FrOut w (a % p ^ k.toNat) (p ^ k.toNat) e w') := Lib.hid (by
      have h := first_any (a % p ^ k.toNat) p k.toNat w hpr hp2 hpm (by omega) (pow_small hp2 hq) hq ha1 ha2
      rw [Int.toNat_of_nonneg (by omega)] at h; exact h)
    have HRO : Hid (∀ zs E full, IsRts (a % p ^ k.toNat) (p ^ k.toNat) full → ((full.length ≤ 1000 ∧ zs = full ∧ E = 0) ∨ (1000 < full.length ∧ zs = [] ∧ E = 8)) → RoS a p k zs E) := Lib.hid (fun zs E full hf h => .inr ⟨he, full, hf.mod, h⟩)
    clear hpr hQ he
    generalize p ^ k.toNat = q at *
    go_enter Try.func68, Try.ntmps68
    go_wp2_with (first | (go_at_call 74; refine HPP.out.mono ?_; rintro e w2 ⟨rfl, rfl⟩) | (go_at_call 56; refine (residue_any _ _ _ (by omega) (by omega)).mono ?_; rintro e w2 ⟨rfl, rfl⟩) | (go_at_call 75; fail))
    refine HFI.out.mono ?_
    rintro e wo ⟨⟨A, c, fs, s, rfl, hfr, hfl, hli⟩, hbel⟩
    obtain ⟨N, hN, hN2⟩ : ∃ N : Nat, q = s * (N : Int) ∧ q / s = N := by
      obtain ⟨d, hd⟩ := hfr.2.2.1
      have hs := hfr.2.1
      have hd0 : 0 ≤ d := by
        rcases Int.lt_or_le d 0 with h | h
        · have : s * d ≤ s * (-1) := Int.mul_le_mul_of_nonneg_left (by omega) (by omega)
          omega
        · exact h
      refine ⟨d.toNat, by rw [Int.toNat_of_nonneg hd0]; exact hd, ?_⟩
      rw [Int.toNat_of_nonneg hd0, hd]
      exact Int.mul_ediv_cancel_left _ (by omega)
    have hs1 := hfr.2.1
    have HIS := Lib.hid (spread_rts hfr hN)
    have HZ := Lib.hid hfr.2.2.2.1
    have HN := Lib.hid hN
    have hNq : (N : Int) ≤ q := by
      rw [hN]
      have : 1 * (N : Int) ≤ s * (N : Int) := Int.mul_le_mul_of_nonneg_right hs1 (by omega)
      omega
    have hsq : s ≤ q := Int.le_of_dvd hq0 hfr.2.2.1
    have HL := Lib.hid hli
    have HB := Lib.hid hbel
    have HLT := Lib.hid hli.lt
    have hHB := hbel.size
    have hfN : 0 ≤ (fs.length : Int) * (N : Int) ∧ (fs.length : Int) * (N : Int) ≤ 1000000000 * 1000000000 := ⟨Int.mul_nonneg (by omega) (by omega), Int.mul_le_mul (by omega) (by omega) (by omega) (by omega)⟩
    obtain ⟨hfN0, hfN1⟩ := hfN
    have HNL : Hid (((spread s fs N).length : Int) = (fs.length : Int) * N) := Lib.hid (by rw [spread_len]; simp; rw [Int.mul_comm])
    clear hfr hN hli hbel HPP HFI
    by_cases hbig : 1000 < (fs.length : Int) * (N : Int)
    · have HR : Hid (RoS a p k [] 8) := Lib.hid (HRO.out _ _ _ HIS.out (.inr ⟨by have := HNL.out; omega, rfl, rfl⟩))
      have hB2 := HB.out
      have HB3 := Lib.hid hB2
      clear hB2
      go_wp2
      go_ret2
      exact ⟨⟨none, 0, [], 8, rfl, HR.out, LI.nil_ _ _⟩, HB3.out⟩
    · have hNL2 : N * fs.length ≤ 1000 := by
        have : ((N * fs.length : Nat) : Int) ≤ 1000 := by simp; rw [Int.mul_comm]; omega
        omega
      clear hfN1
      go_wp2
      clear hN2
      go_loopg [12, 13] N (fun gg t12 t13 wr => ∃ (i : Nat) (fm : Int) (A3 : Option Addr) (c3 : Nat) (ys : List Int), (i ≤ N ∧ N - i ≤ gg ∧ fm = s * (i : Int) ∧ ys = spread s fs i ∧ LI wo.heap.size wr A3 c3 ys ∧ Below wo.heap.size wo wr) ∧ t12 = .slice A3 ys.length c3 ∧ t13 = .int .i64 fm)
      case atStart => exact ⟨0, 0, none, 0, [], ⟨Nat.zero_le _, by omega, by simp, by simp [spread], LI.nil_ _ _, Below.refl _ _⟩, rfl, rfl⟩
      case round =>
        obtain ⟨i, fm, A3, c3, ys, ⟨hiN, hg, hfm, hys, hli2, hbel2⟩, rfl, rfl⟩ := hrel
        obtain ⟨wi, rfl⟩ : ∃ wi : World, wi = wr := ⟨_, rfl⟩
        have HFM := Lib.hid hfm
        have HYS0 := Lib.hid hys
        have HO1 := Lib.hid hli2
        have HBI := Lib.hid hbel2
        have hfm0 : 0 ≤ fm := by rw [hfm]; exact Int.mul_nonneg (by omega) (by omega)
        have hyl0 : ys.length = i * fs.length := by rw [hys, spread_len]
        have hyl : ys.length ≤ N * fs.length := by rw [hyl0]; exact Nat.mul_le_mul_right _ hiN
        clear hfm hys hli2 hbel2 hyl0
        by_cases hin : i < N
        · have hfq : fm + s ≤ q := by
            rw [HFM.out, HN.out]
            have : s * ((i : Int) + 1) ≤ s * (N : Int) := Int.mul_le_mul_of_nonneg_left (by omega) (by omega)
            rw [Int.mul_add, Int.mul_one] at this; exact this
          have hfq2 : fm < q := by omega
          go_wp2
          go_loopg [12, 50] fs.length (fun gg t12 t50 wi2 => ∃ (jj : Nat) (A3 : Option Addr) (c3 : Nat) (ys : List Int), (jj ≤ fs.length ∧ fs.length - jj ≤ gg ∧ ys = spread s fs i ++ (fs.take jj).map (fm + ·) ∧ LI wo.heap.size wi2 A3 c3 ys ∧ Below wo.heap.size wo wi2) ∧ t12 = .slice A3 ys.length c3 ∧ t50 = .int .i64 jj)
          case atStart => exact ⟨0, A3, c3, ys, ⟨Nat.zero_le _, by omega, by simpa using HYS0.out, HO1.out, HBI.out⟩, rfl, rfl⟩
          case round =>
            clear HYS0 HO1 HBI
            obtain ⟨jj, A3, c3, ys, ⟨hjf, hg2, hys, hli2, hbel2⟩, rfl, rfl⟩ := hrel
            obtain ⟨wi, rfl⟩ : ∃ wi : World, wi = wr := ⟨_, rfl⟩
            have HYS := Lib.hid hys
            have HO := Lib.hid hli2
            have HBI2 := Lib.hid hbel2
            have hyl2 : ys.length = i * fs.length + jj := by rw [hys, List.length_append, spread_len]; simp; omega
            have hyl3 : ys.length ≤ 2000 := by
              have : i * fs.length ≤ N * fs.length := Nat.mul_le_mul_right _ hiN
              have h6 : 1 * fs.length ≤ N * fs.length := Nat.mul_le_mul_right _ (by omega)
              omega
            clear hys hli2 hbel2 hyl2
            by_cases hjl : jj < fs.length
            · obtain ⟨b, x, rfl, EX, hcell, hb1, hb2⟩ := (HL.out.below HBI2.out HLT.out).at_ hjl
              have hx := HZ.out x (by rw [← EX.out]; exact List.getElem_mem hjl)
              obtain ⟨hx0, hx1⟩ := hx
              have HYN : Hid (ys ++ [fm + x] = spread s fs i ++ (fs.take (jj + 1)).map (fm + ·)) := Lib.hid (by
                rw [HYS.out, List.append_assoc, List.take_succ_eq_append_getElem hjl, List.map_append, EX.out]; simp)
              go_wp2_with (at_builtin; refine wpList_append_own _ rfl _ _ 26 rfl wo.heap.size 3 i0 (.int .i64 0) 1 8 Try.underlying26 hi hz0 hz1 hz2 rfl (by decide) _ _ _ rfl (HO.out.alloc _) ⟨wi.heap.size, 0, none⟩ 1 1 [.int .i64 (fm + x)] rfl rfl (new_one _ _ _ _ rfl) (by intro u hu; simp at hu; subst hu; rfl) (by unfold maxLen; omega) (by omega) (by have := HBI2.out.size; simp; omega) ?_)
              intro v2 w2 hown2 hgrow2 _
              have hbel3 : Below wo.heap.size wo w2 := (HBI2.out.alloc HBI2.out.size _).grown hgrow2 (by have := HBI2.out.size; simp; omega) (fun j hj => HO.out.lt_own j hj)
              have hown3 : w2.ownsRow wo.heap.size 3 1 v2 (ys ++ [fm + x]).length (ivs (ys ++ [fm + x])) := by
                rw [ivs_append, List.length_append]; exact hown2
              obtain ⟨A4, c4, rfl, hli4⟩ := LI.of hown3
              have HO4 := Lib.hid hli4
              have HB4 := Lib.hid hbel3
              clear hown2 hgrow2 hown3 hbel3 hli4 HO HBI2
              go_wp2
              go_roundg (fs.length - (jj + 1))
              case rel => exact ⟨jj + 1, A4, c4, ys ++ [fm + x], ⟨by omega, by omega, HYN.out, HO4.out, HB4.out⟩, rfl, by go_num⟩
              case measure => omega
            · have hjj : jj = fs.length := by omega
              subst hjj
              have HYN : Hid (ys = spread s fs (i + 1)) := Lib.hid (by rw [spread_succ, HYS.out, List.take_length, HFM.out])
              have HFN : Hid (fm + s = s * ((i + 1 : Nat) : Int)) := Lib.hid (by rw [HFM.out]; simp; rw [Int.mul_add, Int.mul_one])
              go_wp2
              go_roundg (N - (i + 1))
              case rel => exact ⟨i + 1, fm + s, A3, c3, ys, ⟨by omega, by omega, HFN.out, HYN.out, HO.out, HBI2.out⟩, rfl, by go_num⟩
              case measure => omega
        · have hiN2 : i = N := by omega
          have hfq : q ≤ fm := by rw [HFM.out, HN.out, hiN2]; exact Int.le_refl _
          have HR : Hid (RoS a p k ys 0) := Lib.hid (HRO.out _ _ _ HIS.out (.inl ⟨by have := HNL.out; omega, by rw [HYS0.out, hiN2], rfl⟩))
          subst hiN2
          go_wp2
          go_ret2
          exact ⟨⟨A3, c3, ys, 0, rfl, HR.out, HO1.out.mono hHB⟩, HB.out.trans (HBI.out.mono hHB)⟩
  · have HR : Hid (RoS a p k [] (ppE p k)) := Lib.hid (.inl ⟨he, rfl, rfl⟩)
    have HQ0 : Hid (ppQ p k = 0) := Lib.hid (by unfold ppQ; rw [if_neg he])
    have hb := pp_bd p k
    have hne : (ppE p k != 0) = true := by rw [bne_iff_ne]; exact he
    clear he
    have HPP := Lib.hid (pp_any p k w hk0 hk2)
    rw [HQ0.out] at HPP
    generalize ppE p k = ee at *
    obtain ⟨hb1, hb2⟩ := hb
    go_enter Try.func68, Try.ntmps68
    go_wp2_with (go_at_call 74; refine HPP.out.mono ?_; rintro e w2 ⟨rfl, rfl⟩)
    go_ret2
    exact ⟨⟨none, 0, [], ee, rfl, HR.out, LI.nil_ _ _⟩, Below.refl _ _⟩
end Go.Proofs.Ytgbnmnkgelklbaa.He
