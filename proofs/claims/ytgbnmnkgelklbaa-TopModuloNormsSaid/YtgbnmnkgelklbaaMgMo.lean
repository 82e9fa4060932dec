/-
  Plain mathematics of representations modulo a prime: a square that a quadratic form meets.
  WALK: a square that the norm meets modulo a prime.
  WALK: representations modulo primes, the program's side.
  WALKS: representations modulo primes, the reference's side.
  WALKS: matrices modulo a prime, the reference's products.
-/
import Derived.Test.YtgbnmnkgelklbaaNt
import Derived.Test.YtgbnmnkgelklbaaMgHe
import Derived.Test.YtgbnmnkgelklbaaMgRm
import Derived.Deep.RegionHeld3
import Derived.StillTailTactics
namespace Go.Proofs.Ytgbnmnkgelklbaa.Mo
open Nt (Pr)
set_option linter.unusedVariables false
set_option linter.unusedSimpArgs false
theorem sq_two {p : Nat} (hp : Pr p) {x y : Int} (h : (p : Int) ∣ x * x - y * y) : (p : Int) ∣ x - y ∨ (p : Int) ∣ x + y := by
  refine hp.dvd_mul_int ?_
  rw [show (x - y) * (x + y) = x * x - y * y by grind]
  exact h
/-- the half of the residues whose squares differ -/
theorem half_inj {p : Nat} (hp : Pr p) (ho : p % 2 = 1) {i j : Nat} (hi : i ≤ (p - 1) / 2) (hj : j ≤ (p - 1) / 2) (h : (p : Int) ∣ (i : Int) * i - (j : Int) * j) : i = j := by
  have h2 := hp.1
  rcases sq_two hp h with h1 | h1
  · by_cases he : i = j
    · exact he
    · exfalso
      have := Int.le_of_dvd (a := (p : Int)) (b := ((i : Int) - j).natAbs) (by omega) (by
        rw [Int.dvd_natAbs]; exact h1)
      omega
  · by_cases h0 : i + j = 0
    · omega
    · exfalso
      have := Int.le_of_dvd (a := (p : Int)) (b := (i : Int) + j) (by omega) h1
      omega
/-- two lists of distinct residues that are more than p together meet -/
theorem meet {p : Nat} (l m : List Nat) (hl : l.Nodup) (hm : m.Nodup) (h1 : ∀ x ∈ l, x < p) (h2 : ∀ x ∈ m, x < p) (h : p < l.length + m.length) : ∃ x, x ∈ l ∧ x ∈ m := by
  apply Classical.byContradiction
  intro hno
  have hd : (l ++ m).Nodup := by
    rw [List.nodup_append]
    exact ⟨hl, hm, fun a ha b hb e => hno ⟨a, ha, e ▸ hb⟩⟩
  have hs : ∀ x ∈ l ++ m, x ∈ List.range p := fun x hx => by
    rw [List.mem_range]
    rcases List.mem_append.1 hx with h3 | h3
    · exact h1 x h3
    · exact h2 x h3
  have hp := Nt.perm_of hd hs (by rw [List.length_range, List.length_append]; omega)
  have := hp.length_eq
  rw [List.length_append, List.length_range] at this
  omega
theorem nodup_map {n : Nat} (f : Nat → Nat) (h : ∀ i j, i < n → j < n → f i = f j → i = j) : ((List.range n).map f).Nodup := by
  unfold List.Nodup
  rw [List.pairwise_map]
  refine List.Pairwise.imp_of_mem (fun {a b} ha hb hab e => ?_) (List.pairwise_lt_range (n := n))
  have := h a b (List.mem_range.1 ha) (List.mem_range.1 hb) e
  omega
theorem emod_dvd_sub {a b p : Int} (h : a % p = b % p) : p ∣ a - b := Int.dvd_of_emod_eq_zero (Int.emod_eq_emod_iff_emod_sub_eq_zero.1 h)
theorem toNat_emod {a b p : Int} (hp : 0 < p) (h : (a % p).toNat = (b % p).toNat) : a % p = b % p := by
  have h1 := Int.emod_nonneg a (show p ≠ 0 by omega)
  have h2 := Int.emod_nonneg b (show p ≠ 0 by omega)
  omega
/-- the norm of the algebra meets each residue -/
theorem solve {p : Nat} (hp : Pr p) (ho : p % 2 = 1) (A B : Int) (hA : ¬ (p : Int) ∣ A) : ∃ u v : Nat, u < p ∧ v < p ∧ (p : Int) ∣ (u : Int) * u - (A * v * v + B) := by
  have h2 := hp.1
  have pp : (0 : Int) < p := by omega
  have lt : ∀ a : Int, (a % (p : Int)).toNat < p := fun a => by
    have h1 := Int.emod_nonneg a (show (p : Int) ≠ 0 by omega)
    have h2 := Int.emod_lt_of_pos a pp
    omega
  obtain ⟨x, hx1, hx2⟩ := meet (p := p) ((List.range ((p - 1) / 2 + 1)).map fun i : Nat => (((i : Int) * i) % (p : Int)).toNat) ((List.range ((p - 1) / 2 + 1)).map fun j : Nat => ((A * j * j + B) % (p : Int)).toNat)
    (nodup_map _ fun i j hi hj e => half_inj hp ho (by omega) (by omega) (emod_dvd_sub (toNat_emod pp e)))
    (nodup_map _ fun i j hi hj e => half_inj hp ho (by omega) (by omega) (by
      have h1 := emod_dvd_sub (toNat_emod pp e)
      rw [show A * (i : Int) * i + B - (A * j * j + B) = A * ((i : Int) * i - j * j) by grind] at h1
      rcases hp.dvd_mul_int h1 with h3 | h3
      · exact absurd h3 hA
      · exact h3))
    (by intro x hx; obtain ⟨i, -, rfl⟩ := List.mem_map.1 hx; exact lt _)
    (by intro x hx; obtain ⟨i, -, rfl⟩ := List.mem_map.1 hx; exact lt _)
    (by rw [List.length_map, List.length_map, List.length_range]; omega)
  obtain ⟨i, hi, rfl⟩ := List.mem_map.1 hx1
  obtain ⟨j, hj, hij⟩ := List.mem_map.1 hx2
  rw [List.mem_range] at hi hj
  exact ⟨i, j, by omega, by omega, emod_dvd_sub (toNat_emod pp hij.symm)⟩
/-- at most two roots -/
theorem two_roots {p : Nat} (hp : Pr p) (a : Int) (l : List Int) (hs : l.Pairwise (· < ·)) (h : ∀ x, x ∈ l → 0 ≤ x ∧ x < p ∧ (p : Int) ∣ x * x - a) : l.length ≤ 2 := by
  match l, hs, h with
  | [], _, _ => simp
  | [_], _, _ => simp
  | [_, _], _, _ => simp
  | x :: y :: z :: t, hs, h =>
    exfalso
    obtain ⟨x0, x1, x2⟩ := h x (by simp)
    obtain ⟨y0, y1, y2⟩ := h y (by simp)
    obtain ⟨z0, z1, z2⟩ := h z (by simp)
    simp only [List.pairwise_cons, List.mem_cons] at hs
    have hxy : x < y := hs.1 y (.inl rfl)
    have hyz : y < z := hs.2.1 z (.inl rfl)
    have key : ∀ s t : Int, 0 ≤ s → s < t → t < p → (p : Int) ∣ s * s - a → (p : Int) ∣ t * t - a → s + t = p := by
      intro s t s0 st tp hs ht
      have h1 : (p : Int) ∣ t * t - s * s := by
        have := Int.dvd_sub ht hs
        rwa [show t * t - a - (s * s - a) = t * t - s * s by omega] at this
      rcases sq_two hp h1 with h2 | h2
      · have := Int.le_of_dvd (by omega) h2; omega
      · obtain ⟨k, hk⟩ := h2
        have hk1 : k = 1 := by
          have k0 : 0 < k := by
            rcases Int.lt_trichotomy k 0 with h3 | h3 | h3
            · have := Int.mul_neg_of_pos_of_neg (a := (p : Int)) (by omega) h3; omega
            · rw [h3] at hk; simp at hk; omega
            · exact h3
          have k2 : k < 2 := by
            apply Int.lt_of_not_ge
            intro h3
            have : (p : Int) * 2 ≤ p * k := Int.mul_le_mul_of_nonneg_left h3 (by omega)
            omega
          omega
        rw [hk1] at hk; omega
    have e1 := key x y x0 hxy y1 x2 y2
    have e2 := key x z x0 (by omega) z1 x2 z2
    omega
end Go.Proofs.Ytgbnmnkgelklbaa.Mo
namespace Go.Proofs.Ytgbnmnkgelklbaa.Mo
open Go.RowKit
open Nt (Pr)
open Al
open He (LI RoS IsRts ppE)
open Rm (K_Rk K_Rk.below K_Rk.bel K_Rk.cells K_Rk.zs K_Rk.alloc K_Rk.drew K_Rk.draws)
set_option linter.unusedVariables false
set_option linter.unusedSimpArgs false
set_option maxRecDepth 100000
def NmEnd (A B : Int) (p : Nat) (e : Ending) : Prop := ∃ u v : Nat, e = .returned (.tuple #[.int .i64 u, .int .i64 v]) ∧ u < p ∧ v < p ∧ (p : Int) ∣ (u : Int) * u - (A * v * v + B)
theorem pp_one {p : Nat} (hp : Pr p) (hpm : p ≤ 1000000000) : ppE (p : Int) 1 = 0 := by
  have h2 := hp.1
  have hb : prB (p : Int) = true := prB_t ⟨by omega, by omega, by rwa [Int.toNat_natCast]⟩
  unfold ppE
  rw [if_pos hb, if_neg (by decide), if_pos (by rw [show (1 : Int).toNat = 1 from rfl, Int.pow_one]; omega)]
theorem ro_one {a E : Int} {p : Nat} {zs : List Int} (hp : Pr p) (hpm : p ≤ 1000000000) (h : RoS a p 1 zs E) : (∀ x, x ∈ zs ↔ 0 ≤ x ∧ x < p ∧ (p : Int) ∣ x * x - a) := by
  rcases h with ⟨h1, -⟩ | ⟨-, full, ⟨h2, h3⟩, h4⟩
  · exact absurd (pp_one hp hpm) h1
  · rw [show (1 : Int).toNat = 1 from rfl, Int.pow_one] at h3
    rcases h4 with ⟨-, h5, -⟩ | ⟨h5, -⟩
    · rw [h5]; exact h3
    · have := two_roots hp a full h2 (fun x hx => (h3 x).1 hx)
      omega
set_option maxHeartbeats 4000000 in
theorem normModulo_any (A B : Int) (p : Nat) (w : World) (hA : -1000 ≤ A ∧ A ≤ 1000) (hB : -1000 ≤ B ∧ B ≤ 1000) (hp : Pr p) (ho : p % 2 = 1) (hpm : p ≤ 10000) (hd : ¬ (p : Int) ∣ A) :
    Calls Try.prog 51 #[.agg #[.int .i64 A, .int .i64 B], .int .i64 p] w fun e w' => NmEnd A B p e ∧ Below w.heap.size w w' := by
  have SO := Lib.hid (solve hp ho A B hd)
  have HP := Lib.hid hp
  obtain ⟨a1, a2⟩ := hA
  obtain ⟨b1, b2⟩ := hB
  clear hp ho hd
  go_enter Try.func51, Try.ntmps51
  go_wp2_with fail
  have hK : K_Rk A B w.heap.size w (w.alloc (.cells #[.int .i64 A, .int .i64 B] 23)) := ⟨by simp [go_sem], by simp, by simp, by (repeat (first | (with_reducible exact Below.refl _ _) | (with_reducible exact HB.out) | (with_reducible refine below_draws ?_ _) | (with_reducible refine Below.alloc ?_ (by go_size) _) | (with_reducible refine Below.setCell ?_ (by go_size) _) | (with_reducible refine Below.alloc ?_ (by simp <;> omega) _) | (with_reducible refine Below.setCell ?_ (by simp <;> omega) _)))⟩
  generalize (w.alloc (.cells #[.int .i64 A, .int .i64 B] 23)) = w1 at hK ⊢
  have HK := Lib.hid hK
  clear hK
  go_loopw [10] (fun t10 wr => ∃ k : Nat, (k ≤ p ∧ (∀ v, v < k → ∀ u : Nat, u < p → ¬ (p : Int) ∣ (u : Int) * u - (A * v * v + B)) ∧ K_Rk A B w.heap.size w wr) ∧ t10 = .int .i64 k) (fun t10 _ => p - (intOf t10).toNat)
  case atStart => exact ⟨0, ⟨Nat.zero_le _, fun v hv => absurd hv (by omega), HK.out⟩, rfl⟩
  case round =>
    obtain ⟨k, ⟨hkl, hno, hK⟩, rfl⟩ := hrel
    obtain ⟨wo, rfl⟩ : ∃ wo : World, wo = wr := ⟨_, rfl⟩
    have NO := Lib.hid hno
    have HKK := Lib.hid hK
    clear hno
    obtain ⟨c0_, c1_⟩ := K_Rk.cells hK
    obtain ⟨z0_, -⟩ := K_Rk.zs hK
    clear hK
    by_cases hlt : k < p
    · obtain ⟨m1, m2⟩ := Alm.mb 1000 10000 (a := A) (b := k) ⟨a1, a2⟩ ⟨by omega, by omega⟩
      obtain ⟨m3, m4⟩ := Alm.mb 10000000 10000 (a := A * k) (b := k) ⟨by omega, by omega⟩ ⟨by omega, by omega⟩
      have RO := Lib.hid (fun W => He.Roots_any (A * k * k + B) p 1 W (by decide) (by decide))
      go_wp2_with fail
      refine (RO.out _).mono ?_
      rintro e w2 ⟨⟨Aa, c, zs, E, rfl, hRS, hLI⟩, hb⟩
      have hR := ro_one HP.out (by omega) hRS
      have hK := K_Rk.below hb HKK.out
      match zs, hR, hLI with
      | [], hR, hLI =>
        have NX := Lib.hid (show ∀ v, v < k + 1 → ∀ u : Nat, u < p → ¬ (p : Int) ∣ (u : Int) * u - (A * v * v + B) from fun v hv u hu hd => by
          by_cases hvk : v = k
          · subst hvk
            have := (hR u).2 ⟨by omega, by omega, hd⟩
            cases this
          · exact NO.out v (by omega) u hu hd)
        have HK2 := Lib.hid hK
        clear hR hLI hRS hb hK
        go_wp2
        go_roundw
        case rel => exact ⟨k + 1, ⟨by omega, NX.out, HK2.out⟩, by go_num⟩
        case measure => simp [intOf]; omega
      | x :: t, hR, hLI =>
        obtain ⟨x0, x1, x2⟩ := (hR x).1 (by simp)
        obtain ⟨u, rfl⟩ : ∃ u : Nat, x = u := ⟨x.toNat, by omega⟩
        obtain ⟨b, y, rfl, hy, g0, -, gz⟩ := LI.at_ hLI (j := 0) (by simp)
        have hyu : y = u := by have := hy.out; simpa using this.symm
        subst hyu
        have X2 := Lib.hid x2
        have HK2 := Lib.hid hK
        have hll : (((u : Int) :: t).length : Int) = (t.length : Int) + 1 := by simp
        clear hR hLI hRS hb hK x2 hy
        go_wp2
        go_ret2
        exact ⟨⟨u, k, rfl, by omega, hlt, X2.out⟩, K_Rk.bel HK2.out⟩
    · exfalso
      obtain ⟨u, v, hu, hv, hd⟩ := SO.out
      exact NO.out v (by omega) u hu hd
end Go.Proofs.Ytgbnmnkgelklbaa.Mo
namespace Go.Proofs.Ytgbnmnkgelklbaa.Mo
open Go.RowKit
open Nt (Pr)
open Al
open Rm (tmod_iff)
set_option linter.unusedVariables false
set_option linter.unusedSimpArgs false
set_option maxRecDepth 100000
/-- what a walk keeps: cells, and that nothing that was there has turned -/
def K_M0 (A B p : Int) (b1 b2 R S : Nat) (w w' : World) : Prop := KL w [(b1, 0, .int .i64 A), (b1, 1, .int .i64 B), (b2, 0, .int .i64 p)] [(R, 0), (R, 1), (R, 2), (R, 3), (S, 0), (S, 1), (S, 2), (S, 3)] w'
theorem K_M0.below {A B p : Int} {b1 b2 R S : Nat} {w w1 w2 : World} (hb : Below w1.heap.size w1 w2) (h : K_M0 A B p b1 b2 R S w w1) : K_M0 A B p b1 b2 R S w w2 := KL.below hb h
theorem K_M0.draws {A B p : Int} {b1 b2 R S : Nat} {w w1 : World} (n : Nat) (h : K_M0 A B p b1 b2 R S w w1) : K_M0 A B p b1 b2 R S w (w1.drewN n) := KL.draws n h
theorem K_M0.drew {A B p : Int} {b1 b2 R S : Nat} {w w1 : World} (h : K_M0 A B p b1 b2 R S w w1) : K_M0 A B p b1 b2 R S w w1.drew := KL.draws 1 h
theorem K_M0.alloc {A B p : Int} {b1 b2 R S : Nat} {w w1 : World} (o : Obj) (h : K_M0 A B p b1 b2 R S w w1) : K_M0 A B p b1 b2 R S w (w1.alloc o) := KL.alloc o h
theorem K_M0.set {A B p : Int} {b1 b2 R S : Nat} {w w1 : World} (h : K_M0 A B p b1 b2 R S w w1) (b i : Nat) (v : Value) (hb : b ≠ b1 ∧ b ≠ b2 ∧ w.heap.size ≤ b) : K_M0 A B p b1 b2 R S w (w1.setCell ⟨b, i, none⟩ v) :=
  KL.set h b i v (by intro x hx; simp only [List.mem_cons, List.not_mem_nil, or_false] at hx; rcases hx with rfl | rfl | rfl <;> simp only [] <;> omega) (by omega)
theorem K_M0.bel {A B p : Int} {b1 b2 R S : Nat} {w w1 : World} (h : K_M0 A B p b1 b2 R S w w1) : Below w.heap.size w w1 := KL.bel h
theorem K_M0.cells {A B p : Int} {b1 b2 R S : Nat} {w w' : World} (h : K_M0 A B p b1 b2 R S w w') : w'.cell? ⟨b1, 0, none⟩ = some (.int .i64 A) ∧ w'.cell? ⟨b1, 1, none⟩ = some (.int .i64 B) ∧ w'.cell? ⟨b2, 0, none⟩ = some (.int .i64 p) ∧ w'.cell? ⟨R, 0, none⟩ = some (cv w' R 0) ∧ w'.frozen? ⟨R, 0, none⟩ = false ∧ w'.cell? ⟨R, 1, none⟩ = some (cv w' R 1) ∧ w'.frozen? ⟨R, 1, none⟩ = false ∧ w'.cell? ⟨R, 2, none⟩ = some (cv w' R 2) ∧ w'.frozen? ⟨R, 2, none⟩ = false ∧ w'.cell? ⟨R, 3, none⟩ = some (cv w' R 3) ∧ w'.frozen? ⟨R, 3, none⟩ = false ∧ w'.cell? ⟨S, 0, none⟩ = some (cv w' S 0) ∧ w'.frozen? ⟨S, 0, none⟩ = false ∧ w'.cell? ⟨S, 1, none⟩ = some (cv w' S 1) ∧ w'.frozen? ⟨S, 1, none⟩ = false ∧ w'.cell? ⟨S, 2, none⟩ = some (cv w' S 2) ∧ w'.frozen? ⟨S, 2, none⟩ = false ∧ w'.cell? ⟨S, 3, none⟩ = some (cv w' S 3) ∧ w'.frozen? ⟨S, 3, none⟩ = false := ⟨h.c (b1, 0, .int .i64 A) (by simp), h.c (b1, 1, .int .i64 B) (by simp), h.c (b2, 0, .int .i64 p) (by simp), h.d (R, 0) (by simp), h.f (R, 0) (by simp), h.d (R, 1) (by simp), h.f (R, 1) (by simp), h.d (R, 2) (by simp), h.f (R, 2) (by simp), h.d (R, 3) (by simp), h.f (R, 3) (by simp), h.d (S, 0) (by simp), h.f (S, 0) (by simp), h.d (S, 1) (by simp), h.f (S, 1) (by simp), h.d (S, 2) (by simp), h.f (S, 2) (by simp), h.d (S, 3) (by simp), h.f (S, 3) (by simp)⟩
theorem K_M0.zs {A B p : Int} {b1 b2 R S : Nat} {w w' : World} (h : K_M0 A B p b1 b2 R S w w') : b1 < w'.heap.size ∧ b2 < w'.heap.size ∧ R < w'.heap.size ∧ S < w'.heap.size ∧ True := ⟨KL.z h (x := (b1, 0, .int .i64 A)) (by simp), KL.z h (x := (b2, 0, .int .i64 p)) (by simp), KL.zf h (x := (R, 0)) (by simp), KL.zf h (x := (S, 0)) (by simp), trivial⟩
theorem K_M0.ks {A B p : Int} {b1 b2 R S : Nat} {w w' : World} (h : K_M0 A B p b1 b2 R S w w') : (w'.cell? ⟨b1, 0, none⟩ = some (.int .i64 A) ∧ w'.cell? ⟨b1, 1, none⟩ = some (.int .i64 B) ∧ w'.cell? ⟨b2, 0, none⟩ = some (.int .i64 p) ∧ w'.cell? ⟨R, 0, none⟩ = some (cv w' R 0) ∧ w'.frozen? ⟨R, 0, none⟩ = false ∧ w'.cell? ⟨R, 1, none⟩ = some (cv w' R 1) ∧ w'.frozen? ⟨R, 1, none⟩ = false ∧ w'.cell? ⟨R, 2, none⟩ = some (cv w' R 2) ∧ w'.frozen? ⟨R, 2, none⟩ = false ∧ w'.cell? ⟨R, 3, none⟩ = some (cv w' R 3) ∧ w'.frozen? ⟨R, 3, none⟩ = false ∧ w'.cell? ⟨S, 0, none⟩ = some (cv w' S 0) ∧ w'.frozen? ⟨S, 0, none⟩ = false ∧ w'.cell? ⟨S, 1, none⟩ = some (cv w' S 1) ∧ w'.frozen? ⟨S, 1, none⟩ = false ∧ w'.cell? ⟨S, 2, none⟩ = some (cv w' S 2) ∧ w'.frozen? ⟨S, 2, none⟩ = false ∧ w'.cell? ⟨S, 3, none⟩ = some (cv w' S 3) ∧ w'.frozen? ⟨S, 3, none⟩ = false) ∧ K_M0 A B p b1 b2 R S w w' := ⟨h.cells, h⟩
noncomputable def mdE (A B p : Int) : Int := if (3 ≤ p ∧ p ≤ 10000) ∧ prB p = true ∧ (A.tmod p == 0) = false ∧ (B.tmod p == 0) = false then 0 else 11
theorem mdE_no {A B p : Int} (h : ¬ ((3 ≤ p ∧ p ≤ 10000) ∧ prB p = true ∧ (A.tmod p == 0) = false ∧ (B.tmod p == 0) = false)) : mdE A B p = 11 := if_neg h
set_option maxHeartbeats 4000000 in
theorem Modulo_err (A B p : Int) (w : World) (h : chkA A B ≠ 0) :
    Calls Try.prog 21 #[.agg #[.int .i64 A, .int .i64 B], .int .i64 p] w fun e w' => e = .returned (.tuple #[.agg #[.int .i64 0, .int .i64 0, .int .i64 0, .int .i64 0], .agg #[.int .i64 0, .int .i64 0, .int .i64 0, .int .i64 0], .int .i64 (chkA A B)]) ∧ Below w.heap.size w w' := by
  have ht : (chkA A B != 0) = true := by rw [bne_iff_ne]; exact h
  clear h
  go_enter Try.func21, Try.ntmps21
  go_wp2_with fail
  refine (Check_any _ _ _).mono ?_
  rintro e w1 ⟨rfl, hb⟩
  have hK : K_M0 A B p w.heap.size (w.heap.size + 1) (w.heap.size + 2) (w.heap.size + 3) w w1 := K_M0.below hb ⟨by simp [go_sem], by simp [go_sem], by simp [go_sem], by (repeat (first | (with_reducible exact Below.refl _ _) | (with_reducible exact HB.out) | (with_reducible refine below_draws ?_ _) | (with_reducible refine Below.alloc ?_ (by go_size) _) | (with_reducible refine Below.setCell ?_ (by go_size) _) | (with_reducible refine Below.alloc ?_ (by simp <;> omega) _) | (with_reducible refine Below.setCell ?_ (by simp <;> omega) _)))⟩
  clear hb
  obtain ⟨c0_, c1_, c2_, d0_, f0_, d1_, f1_, d2_, f2_, d3_, f3_, d4_, f4_, d5_, f5_, d6_, f6_, d7_, f7_⟩ := K_M0.cells hK; obtain ⟨z0_, z1_, z2_, z3_, -⟩ := K_M0.zs hK; have HK := Lib.hid hK; clear hK
  go_wp2
  exact bodyPost_ret (v := .tuple #[.agg #[.int .i64 0, .int .i64 0, .int .i64 0, .int .i64 0], .agg #[.int .i64 0, .int .i64 0, .int .i64 0, .int .i64 0], .int .i64 (chkA A B)]) (by simp [results, Try.results21, go_sem, c0_, c1_, c2_, d0_, f0_, d1_, f1_, d2_, f2_, d3_, f3_, d4_, f4_, d5_, f5_, d6_, f6_, d7_, f7_]) rfl ⟨rfl, by have HB := Lib.hid (K_M0.bel HK.out); (repeat (first | (with_reducible exact Below.refl _ _) | (with_reducible exact HB.out) | (with_reducible refine below_draws ?_ _) | (with_reducible refine Below.alloc ?_ (by go_size) _) | (with_reducible refine Below.setCell ?_ (by go_size) _) | (with_reducible refine Below.alloc ?_ (by simp <;> omega) _) | (with_reducible refine Below.setCell ?_ (by simp <;> omega) _)))⟩
theorem md_ways {A B p : Int} (h : mdE A B p ≠ 0) : (p == 2) = true ∨ (p == 2) = false ∧ (decide ((10000 : Int) < p) = true ∨ decide ((10000 : Int) < p) = false ∧ (prB p = false ∨ prB p = true ∧ 2 ≤ p ∧ ((A.tmod p == 0) = true ∨ (A.tmod p == 0) = false ∧ (B.tmod p == 0) = true))) := by
  by_cases h2 : p = 2
  · exact .inl (by rw [h2]; rfl)
  have e2 : (p == 2) = false := by rw [beq_eq_false_iff_ne]; exact h2
  refine .inr ⟨e2, ?_⟩
  by_cases h3 : (10000 : Int) < p
  · exact .inl (decide_eq_true h3)
  refine .inr ⟨decide_eq_false h3, ?_⟩
  rcases h4 : prB p with _ | _
  · exact .inl rfl
  have h5 := (prB_of h4).1
  refine .inr ⟨rfl, h5, ?_⟩
  rcases h6 : (A.tmod p == 0) with _ | _
  · rcases h7 : (B.tmod p == 0) with _ | _
    · exact absurd (if_pos ⟨⟨by omega, by omega⟩, h4, h6, h7⟩) h
    · exact .inr ⟨rfl, rfl⟩
  · exact .inl rfl
set_option maxHeartbeats 4000000 in
theorem Modulo_prime (A B p : Int) (w : World) (h : chkA A B = 0) (hm : mdE A B p ≠ 0) :
    Calls Try.prog 21 #[.agg #[.int .i64 A, .int .i64 B], .int .i64 p] w fun e w' => e = .returned (.tuple #[.agg #[.int .i64 0, .int .i64 0, .int .i64 0, .int .i64 0], .agg #[.int .i64 0, .int .i64 0, .int .i64 0, .int .i64 0], .int .i64 11]) ∧ Below w.heap.size w w' := by
  have HC := Lib.hid h
  clear h
  rcases md_ways hm with t1 | ⟨t1, t2 | ⟨t2, t3 | ⟨t3, hp2, t4 | ⟨t4, t5⟩⟩⟩⟩
  all_goals
    have PB := Lib.hid (isPrime_any p)
    clear hm
    try rw [t3] at PB
    try clear t3
    go_enter Try.func21, Try.ntmps21
    go_wp2_with fail
    refine (Check_any _ _ _).mono ?_
    rintro e w1 ⟨rfl, hb⟩
    have hK : K_M0 A B p w.heap.size (w.heap.size + 1) (w.heap.size + 2) (w.heap.size + 3) w w1 := K_M0.below hb ⟨by simp [go_sem], by simp [go_sem], by simp [go_sem], by (repeat (first | (with_reducible exact Below.refl _ _) | (with_reducible exact HB.out) | (with_reducible refine below_draws ?_ _) | (with_reducible refine Below.alloc ?_ (by go_size) _) | (with_reducible refine Below.setCell ?_ (by go_size) _) | (with_reducible refine Below.alloc ?_ (by simp <;> omega) _) | (with_reducible refine Below.setCell ?_ (by simp <;> omega) _)))⟩
    clear hb
    rw [HC.out]
    obtain ⟨c0_, c1_, c2_, d0_, f0_, d1_, f1_, d2_, f2_, d3_, f3_, d4_, f4_, d5_, f5_, d6_, f6_, d7_, f7_⟩ := K_M0.cells hK; obtain ⟨z0_, z1_, z2_, z3_, -⟩ := K_M0.zs hK; have HK := Lib.hid hK; clear hK
    have HB := Lib.hid (K_M0.bel HK.out)
    go_wp2_with (go_at_call 10; refine (PB.out _).mono ?_; rintro e w' ⟨rfl, rfl⟩)
    exact bodyPost_ret (v := .tuple #[.agg #[.int .i64 0, .int .i64 0, .int .i64 0, .int .i64 0], .agg #[.int .i64 0, .int .i64 0, .int .i64 0, .int .i64 0], .int .i64 11]) (by simp [results, Try.results21, go_sem, c0_, c1_, c2_, d0_, f0_, d1_, f1_, d2_, f2_, d3_, f3_, d4_, f4_, d5_, f5_, d6_, f6_, d7_, f7_]) rfl ⟨rfl, by (repeat (first | (with_reducible exact Below.refl _ _) | (with_reducible exact HB.out) | (with_reducible refine below_draws ?_ _) | (with_reducible refine Below.alloc ?_ (by go_size) _) | (with_reducible refine Below.setCell ?_ (by go_size) _) | (with_reducible refine Below.alloc ?_ (by simp <;> omega) _) | (with_reducible refine Below.setCell ?_ (by simp <;> omega) _)))⟩
theorem rs_emod {n p : Int} (hp : 0 < p) : (n.tmod p + p) % p = n % p ∧ 0 ≤ n.tmod p + p := by
  have h1 : -p < n.tmod p ∧ n.tmod p < p := by
    have := Int.natAbs_tmod n p
    have h2 : n.natAbs % p.natAbs < p.natAbs := Nat.mod_lt _ (by omega)
    omega
  refine ⟨?_, by omega⟩
  rw [Int.add_emod_right, Int.tmod_def, Int.sub_mul_emod_self_left]
set_option maxHeartbeats 400000 in
theorem residue_any (n p : Int) (b : Nat) (w : World) (hc : w.cell? ⟨b, 0, none⟩ = some (.int .i64 p)) (h3 : 3 ≤ p) (hp : p ≤ 10000) (h1 : -10000000 ≤ n) (h2 : n ≤ 10000000) :
    Calls Try.prog 50 #[.int .i64 n, .pointer (some ⟨b, 0, none⟩)] w fun e w' => e = .returned (.int .i64 (n % p)) ∧ Below w.heap.size w w' := by
  have RS := Lib.hid (rs_emod (n := n) (p := p) (by omega))
  have t1 : -p < n.tmod p ∧ n.tmod p < p := by
    have := Int.natAbs_tmod n p
    have h2 : n.natAbs % p.natAbs < p.natAbs := Nat.mod_lt _ (by omega)
    omega
  obtain ⟨t1, t1'⟩ := t1
  have hz : (p == 0) = false := by rw [beq_eq_false_iff_ne]; omega
  go_enter Try.func50, Try.ntmps50
  have e1 := IntWalk.i64_in (n.tmod p) (by omega)
  have e2 := IntWalk.i64_in (n.tmod p + p) (by omega)
  have e3 := IntWalk.i64_in ((n.tmod p + p) % p) (by rw [RS.out.1]; have h5 := Int.emod_nonneg n (show p ≠ 0 by omega); have h6 := Int.emod_lt_of_pos n (show 0 < p by omega); omega)
  go_wp2_with fail
  go_region
  clear e1 e2 e3
  go_wp2
  go_ret
  exact ⟨by show Ending.returned (.int .i64 ((n.tmod p + p) % p)) = _; rw [RS.out.1], below_draws (Below.refl _ _) 1⟩
theorem KL.same1 {w0 : World} {cs : List (Nat × Nat × Value)} {fs : List (Nat × Nat)} {w : World} (h : KL w0 cs fs w) (p i : Nat) (v : Value) (hc : (p, i, v) ∈ cs) (hw : w0.heap.size ≤ p) : KL w0 cs fs (w.setCell ⟨p, i, none⟩ v) := by
  have h0 := h.c (p, i, v) hc
  simp only [] at h0
  refine ⟨fun x hx => ?_, fun x hx => ?_, fun x hx => ?_, h.bel.setCell hw _⟩
  · have hx' := h.c x hx
    by_cases e : (⟨p, i, none⟩ : Addr) = ⟨x.1, x.2.1, none⟩
    · rw [← e, World.cell?_setCell_same w _ _ h0]
      rw [← e, h0] at hx'
      exact hx'
    · rw [World.cell?_setCell_other _ _ _ _ e]; exact hx'
  · obtain ⟨u, hu⟩ := cell?_setCell_some (p := ⟨p, i, none⟩) (x := v) (h.d x hx)
    rw [hu]; rfl
  · rw [World.frozen?_setCell]; exact h.f x hx
/-- what a walk keeps: cells, and that nothing that was there has turned -/
def K_M2 (A B p x u y s z : Int) (b1 b2 R S : Nat) (w w' : World) : Prop := KL w [(b1, 0, .int .i64 A), (b1, 1, .int .i64 B), (b2, 0, .int .i64 p), (R, 0, .int .i64 0), (R, 1, .int .i64 x), (R, 2, .int .i64 1), (R, 3, .int .i64 0), (S, 0, .int .i64 u), (S, 1, .int .i64 y), (S, 2, .int .i64 s), (S, 3, .int .i64 z)] [(R, 0), (R, 1), (R, 2), (R, 3), (S, 0), (S, 1), (S, 2), (S, 3)] w'
theorem K_M2.below {A B p x u y s z : Int} {b1 b2 R S : Nat} {w w1 w2 : World} (hb : Below w1.heap.size w1 w2) (h : K_M2 A B p x u y s z b1 b2 R S w w1) : K_M2 A B p x u y s z b1 b2 R S w w2 := KL.below hb h
theorem K_M2.draws {A B p x u y s z : Int} {b1 b2 R S : Nat} {w w1 : World} (n : Nat) (h : K_M2 A B p x u y s z b1 b2 R S w w1) : K_M2 A B p x u y s z b1 b2 R S w (w1.drewN n) := KL.draws n h
theorem K_M2.drew {A B p x u y s z : Int} {b1 b2 R S : Nat} {w w1 : World} (h : K_M2 A B p x u y s z b1 b2 R S w w1) : K_M2 A B p x u y s z b1 b2 R S w w1.drew := KL.draws 1 h
theorem K_M2.alloc {A B p x u y s z : Int} {b1 b2 R S : Nat} {w w1 : World} (o : Obj) (h : K_M2 A B p x u y s z b1 b2 R S w w1) : K_M2 A B p x u y s z b1 b2 R S w (w1.alloc o) := KL.alloc o h
theorem K_M2.set {A B p x u y s z : Int} {b1 b2 R S : Nat} {w w1 : World} (h : K_M2 A B p x u y s z b1 b2 R S w w1) (b i : Nat) (v : Value) (hb : b ≠ b1 ∧ b ≠ b2 ∧ b ≠ R ∧ b ≠ S ∧ w.heap.size ≤ b) : K_M2 A B p x u y s z b1 b2 R S w (w1.setCell ⟨b, i, none⟩ v) :=
  KL.set h b i v (by intro x hx; simp only [List.mem_cons, List.not_mem_nil, or_false] at hx; rcases hx with rfl | rfl | rfl | rfl | rfl | rfl | rfl | rfl | rfl | rfl | rfl <;> simp only [] <;> omega) (by omega)
theorem K_M2.bel {A B p x u y s z : Int} {b1 b2 R S : Nat} {w w1 : World} (h : K_M2 A B p x u y s z b1 b2 R S w w1) : Below w.heap.size w w1 := KL.bel h
theorem K_M2.cells {A B p x u y s z : Int} {b1 b2 R S : Nat} {w w' : World} (h : K_M2 A B p x u y s z b1 b2 R S w w') : w'.cell? ⟨b1, 0, none⟩ = some (.int .i64 A) ∧ w'.cell? ⟨b1, 1, none⟩ = some (.int .i64 B) ∧ w'.cell? ⟨b2, 0, none⟩ = some (.int .i64 p) ∧ w'.cell? ⟨R, 0, none⟩ = some (.int .i64 0) ∧ w'.cell? ⟨R, 1, none⟩ = some (.int .i64 x) ∧ w'.cell? ⟨R, 2, none⟩ = some (.int .i64 1) ∧ w'.cell? ⟨R, 3, none⟩ = some (.int .i64 0) ∧ w'.cell? ⟨S, 0, none⟩ = some (.int .i64 u) ∧ w'.cell? ⟨S, 1, none⟩ = some (.int .i64 y) ∧ w'.cell? ⟨S, 2, none⟩ = some (.int .i64 s) ∧ w'.cell? ⟨S, 3, none⟩ = some (.int .i64 z) ∧ w'.frozen? ⟨R, 0, none⟩ = false ∧ w'.frozen? ⟨R, 1, none⟩ = false ∧ w'.frozen? ⟨R, 2, none⟩ = false ∧ w'.frozen? ⟨R, 3, none⟩ = false ∧ w'.frozen? ⟨S, 0, none⟩ = false ∧ w'.frozen? ⟨S, 1, none⟩ = false ∧ w'.frozen? ⟨S, 2, none⟩ = false ∧ w'.frozen? ⟨S, 3, none⟩ = false := ⟨h.c (b1, 0, .int .i64 A) (by simp), h.c (b1, 1, .int .i64 B) (by simp), h.c (b2, 0, .int .i64 p) (by simp), h.c (R, 0, .int .i64 0) (by simp), h.c (R, 1, .int .i64 x) (by simp), h.c (R, 2, .int .i64 1) (by simp), h.c (R, 3, .int .i64 0) (by simp), h.c (S, 0, .int .i64 u) (by simp), h.c (S, 1, .int .i64 y) (by simp), h.c (S, 2, .int .i64 s) (by simp), h.c (S, 3, .int .i64 z) (by simp), h.f (R, 0) (by simp), h.f (R, 1) (by simp), h.f (R, 2) (by simp), h.f (R, 3) (by simp), h.f (S, 0) (by simp), h.f (S, 1) (by simp), h.f (S, 2) (by simp), h.f (S, 3) (by simp)⟩
theorem K_M2.zs {A B p x u y s z : Int} {b1 b2 R S : Nat} {w w' : World} (h : K_M2 A B p x u y s z b1 b2 R S w w') : b1 < w'.heap.size ∧ b2 < w'.heap.size ∧ R < w'.heap.size ∧ S < w'.heap.size ∧ True := ⟨KL.z h (x := (b1, 0, .int .i64 A)) (by simp), KL.z h (x := (b2, 0, .int .i64 p)) (by simp), KL.z h (x := (R, 0, .int .i64 0)) (by simp), KL.z h (x := (S, 0, .int .i64 u)) (by simp), trivial⟩
theorem K_M2.ks {A B p x u y s z : Int} {b1 b2 R S : Nat} {w w' : World} (h : K_M2 A B p x u y s z b1 b2 R S w w') : (w'.cell? ⟨b1, 0, none⟩ = some (.int .i64 A) ∧ w'.cell? ⟨b1, 1, none⟩ = some (.int .i64 B) ∧ w'.cell? ⟨b2, 0, none⟩ = some (.int .i64 p) ∧ w'.cell? ⟨R, 0, none⟩ = some (.int .i64 0) ∧ w'.cell? ⟨R, 1, none⟩ = some (.int .i64 x) ∧ w'.cell? ⟨R, 2, none⟩ = some (.int .i64 1) ∧ w'.cell? ⟨R, 3, none⟩ = some (.int .i64 0) ∧ w'.cell? ⟨S, 0, none⟩ = some (.int .i64 u) ∧ w'.cell? ⟨S, 1, none⟩ = some (.int .i64 y) ∧ w'.cell? ⟨S, 2, none⟩ = some (.int .i64 s) ∧ w'.cell? ⟨S, 3, none⟩ = some (.int .i64 z) ∧ w'.frozen? ⟨R, 0, none⟩ = false ∧ w'.frozen? ⟨R, 1, none⟩ = false ∧ w'.frozen? ⟨R, 2, none⟩ = false ∧ w'.frozen? ⟨R, 3, none⟩ = false ∧ w'.frozen? ⟨S, 0, none⟩ = false ∧ w'.frozen? ⟨S, 1, none⟩ = false ∧ w'.frozen? ⟨S, 2, none⟩ = false ∧ w'.frozen? ⟨S, 3, none⟩ = false) ∧ K_M2 A B p x u y s z b1 b2 R S w w' := ⟨h.cells, h⟩
theorem M2_same {A B p x u y s z : Int} {b1 b2 R S : Nat} {w w1 : World} (h : K_M2 A B p x u y s z b1 b2 R S w w1) (q i : Nat) (t : Value) (hc : (q, i, t) ∈ [(b1, 0, Value.int .i64 A), (b1, 1, .int .i64 B), (b2, 0, .int .i64 p), (R, 0, .int .i64 0), (R, 1, .int .i64 x), (R, 2, .int .i64 1), (R, 3, .int .i64 0), (S, 0, .int .i64 u), (S, 1, .int .i64 y), (S, 2, .int .i64 s), (S, 3, .int .i64 z)]) (hw : w.heap.size ≤ q) : K_M2 A B p x u y s z b1 b2 R S w (w1.setCell ⟨q, i, none⟩ t) := KL.same1 h q i t hc hw
/-- what a walk keeps: cells, and that nothing that was there has turned -/
def K_M1 (A B p x : Int) (b1 b2 R S : Nat) (w w' : World) : Prop := KL w [(b1, 0, .int .i64 A), (b1, 1, .int .i64 B), (b2, 0, .int .i64 p), (R, 0, .int .i64 0), (R, 1, .int .i64 x), (R, 2, .int .i64 1), (R, 3, .int .i64 0)] [(R, 0), (R, 1), (R, 2), (R, 3), (S, 0), (S, 1), (S, 2), (S, 3)] w'
theorem K_M1.below {A B p x : Int} {b1 b2 R S : Nat} {w w1 w2 : World} (hb : Below w1.heap.size w1 w2) (h : K_M1 A B p x b1 b2 R S w w1) : K_M1 A B p x b1 b2 R S w w2 := KL.below hb h
theorem K_M1.draws {A B p x : Int} {b1 b2 R S : Nat} {w w1 : World} (n : Nat) (h : K_M1 A B p x b1 b2 R S w w1) : K_M1 A B p x b1 b2 R S w (w1.drewN n) := KL.draws n h
theorem K_M1.drew {A B p x : Int} {b1 b2 R S : Nat} {w w1 : World} (h : K_M1 A B p x b1 b2 R S w w1) : K_M1 A B p x b1 b2 R S w w1.drew := KL.draws 1 h
theorem K_M1.alloc {A B p x : Int} {b1 b2 R S : Nat} {w w1 : World} (o : Obj) (h : K_M1 A B p x b1 b2 R S w w1) : K_M1 A B p x b1 b2 R S w (w1.alloc o) := KL.alloc o h
theorem K_M1.set {A B p x : Int} {b1 b2 R S : Nat} {w w1 : World} (h : K_M1 A B p x b1 b2 R S w w1) (b i : Nat) (v : Value) (hb : b ≠ b1 ∧ b ≠ b2 ∧ b ≠ R ∧ w.heap.size ≤ b) : K_M1 A B p x b1 b2 R S w (w1.setCell ⟨b, i, none⟩ v) :=
  KL.set h b i v (by intro x hx; simp only [List.mem_cons, List.not_mem_nil, or_false] at hx; rcases hx with rfl | rfl | rfl | rfl | rfl | rfl | rfl <;> simp only [] <;> omega) (by omega)
theorem K_M1.bel {A B p x : Int} {b1 b2 R S : Nat} {w w1 : World} (h : K_M1 A B p x b1 b2 R S w w1) : Below w.heap.size w w1 := KL.bel h
theorem K_M1.cells {A B p x : Int} {b1 b2 R S : Nat} {w w' : World} (h : K_M1 A B p x b1 b2 R S w w') : w'.cell? ⟨b1, 0, none⟩ = some (.int .i64 A) ∧ w'.cell? ⟨b1, 1, none⟩ = some (.int .i64 B) ∧ w'.cell? ⟨b2, 0, none⟩ = some (.int .i64 p) ∧ w'.cell? ⟨R, 0, none⟩ = some (.int .i64 0) ∧ w'.cell? ⟨R, 1, none⟩ = some (.int .i64 x) ∧ w'.cell? ⟨R, 2, none⟩ = some (.int .i64 1) ∧ w'.cell? ⟨R, 3, none⟩ = some (.int .i64 0) ∧ w'.frozen? ⟨R, 0, none⟩ = false ∧ w'.frozen? ⟨R, 1, none⟩ = false ∧ w'.frozen? ⟨R, 2, none⟩ = false ∧ w'.frozen? ⟨R, 3, none⟩ = false ∧ w'.cell? ⟨S, 0, none⟩ = some (cv w' S 0) ∧ w'.frozen? ⟨S, 0, none⟩ = false ∧ w'.cell? ⟨S, 1, none⟩ = some (cv w' S 1) ∧ w'.frozen? ⟨S, 1, none⟩ = false ∧ w'.cell? ⟨S, 2, none⟩ = some (cv w' S 2) ∧ w'.frozen? ⟨S, 2, none⟩ = false ∧ w'.cell? ⟨S, 3, none⟩ = some (cv w' S 3) ∧ w'.frozen? ⟨S, 3, none⟩ = false := ⟨h.c (b1, 0, .int .i64 A) (by simp), h.c (b1, 1, .int .i64 B) (by simp), h.c (b2, 0, .int .i64 p) (by simp), h.c (R, 0, .int .i64 0) (by simp), h.c (R, 1, .int .i64 x) (by simp), h.c (R, 2, .int .i64 1) (by simp), h.c (R, 3, .int .i64 0) (by simp), h.f (R, 0) (by simp), h.f (R, 1) (by simp), h.f (R, 2) (by simp), h.f (R, 3) (by simp), h.d (S, 0) (by simp), h.f (S, 0) (by simp), h.d (S, 1) (by simp), h.f (S, 1) (by simp), h.d (S, 2) (by simp), h.f (S, 2) (by simp), h.d (S, 3) (by simp), h.f (S, 3) (by simp)⟩
theorem K_M1.zs {A B p x : Int} {b1 b2 R S : Nat} {w w' : World} (h : K_M1 A B p x b1 b2 R S w w') : b1 < w'.heap.size ∧ b2 < w'.heap.size ∧ R < w'.heap.size ∧ S < w'.heap.size ∧ True := ⟨KL.z h (x := (b1, 0, .int .i64 A)) (by simp), KL.z h (x := (b2, 0, .int .i64 p)) (by simp), KL.z h (x := (R, 0, .int .i64 0)) (by simp), KL.zf h (x := (S, 0)) (by simp), trivial⟩
theorem K_M1.ks {A B p x : Int} {b1 b2 R S : Nat} {w w' : World} (h : K_M1 A B p x b1 b2 R S w w') : (w'.cell? ⟨b1, 0, none⟩ = some (.int .i64 A) ∧ w'.cell? ⟨b1, 1, none⟩ = some (.int .i64 B) ∧ w'.cell? ⟨b2, 0, none⟩ = some (.int .i64 p) ∧ w'.cell? ⟨R, 0, none⟩ = some (.int .i64 0) ∧ w'.cell? ⟨R, 1, none⟩ = some (.int .i64 x) ∧ w'.cell? ⟨R, 2, none⟩ = some (.int .i64 1) ∧ w'.cell? ⟨R, 3, none⟩ = some (.int .i64 0) ∧ w'.frozen? ⟨R, 0, none⟩ = false ∧ w'.frozen? ⟨R, 1, none⟩ = false ∧ w'.frozen? ⟨R, 2, none⟩ = false ∧ w'.frozen? ⟨R, 3, none⟩ = false ∧ w'.cell? ⟨S, 0, none⟩ = some (cv w' S 0) ∧ w'.frozen? ⟨S, 0, none⟩ = false ∧ w'.cell? ⟨S, 1, none⟩ = some (cv w' S 1) ∧ w'.frozen? ⟨S, 1, none⟩ = false ∧ w'.cell? ⟨S, 2, none⟩ = some (cv w' S 2) ∧ w'.frozen? ⟨S, 2, none⟩ = false ∧ w'.cell? ⟨S, 3, none⟩ = some (cv w' S 3) ∧ w'.frozen? ⟨S, 3, none⟩ = false) ∧ K_M1 A B p x b1 b2 R S w w' := ⟨h.cells, h⟩
def MdEnd (A B p : Int) (e : Ending) : Prop := ∃ u v : Nat, e = .returned (.tuple #[.agg #[.int .i64 0, .int .i64 (A % p), .int .i64 1, .int .i64 0], .agg #[.int .i64 u, .int .i64 (-A * v % p), .int .i64 v, .int .i64 (-u % p)], .int .i64 0]) ∧ (u : Int) < p ∧ (v : Int) < p ∧ p ∣ (u : Int) * u - (A * v * v + B)
set_option maxHeartbeats 4000000 in
theorem Modulo_ok (A B p : Int) (P : Nat) (hP : p = P) (w : World) (h : chkA A B = 0) (hm : mdE A B p = 0) :
    Calls Try.prog 21 #[.agg #[.int .i64 A, .int .i64 B], .int .i64 p] w fun e w' => MdEnd A B p e ∧ Below w.heap.size w w' := by
  obtain ⟨b1, b2, b3, b4⟩ := Rm.chk_bds h
  have hk : (3 ≤ p ∧ p ≤ 10000) ∧ prB p = true ∧ (A.tmod p == 0) = false ∧ (B.tmod p == 0) = false := by
    apply Classical.byContradiction; intro hn
    rw [mdE_no hn] at hm; exact absurd hm (by decide)
  obtain ⟨⟨p3, pm⟩, t3, t4, t5⟩ := hk
  have hpr : Pr P := by have := (prB_of t3).2.2; rwa [hP, Int.toNat_natCast] at this
  have hodd : P % 2 = 1 := pr_odd hpr (by omega)
  have hnd : ¬ (P : Int) ∣ A := by
    intro hd
    rw [beq_eq_false_iff_ne, hP] at t4
    exact t4 (Int.tmod_eq_zero_of_dvd hd)
  have NM := Lib.hid (fun W => normModulo_any A B P W b3 b4 hpr hodd (by omega) hnd)
  rw [← hP] at NM
  have PB := Lib.hid (isPrime_any p)
  rw [t3] at PB
  have t1 : (p == 2) = false := by rw [beq_eq_false_iff_ne]; omega
  have t2 : decide ((10000 : Int) < p) = false := decide_eq_false (by omega)
  have HC := Lib.hid h
  have HPP := Lib.hid hP
  obtain ⟨a1, a2⟩ := b3
  clear h hm t3 hnd hodd hpr b1 b2 b4 hP
  go_enter Try.func21, Try.ntmps21
  go_wp2_with fail
  refine (Check_any _ _ _).mono ?_
  rintro e w1 ⟨rfl, hb⟩
  have hK : K_M0 A B p w.heap.size (w.heap.size + 1) (w.heap.size + 2) (w.heap.size + 3) w w1 := K_M0.below hb ⟨by simp [go_sem], by simp [go_sem], by simp [go_sem], by (repeat (first | (with_reducible exact Below.refl _ _) | (with_reducible exact HB.out) | (with_reducible refine below_draws ?_ _) | (with_reducible refine Below.alloc ?_ (by go_size) _) | (with_reducible refine Below.setCell ?_ (by go_size) _) | (with_reducible refine Below.alloc ?_ (by simp <;> omega) _) | (with_reducible refine Below.setCell ?_ (by simp <;> omega) _)))⟩
  clear hb
  rw [HC.out]
  obtain ⟨c0_, c1_, c2_, d0_, f0_, d1_, f1_, d2_, f2_, d3_, f3_, d4_, f4_, d5_, f5_, d6_, f6_, d7_, f7_⟩ := K_M0.cells hK; obtain ⟨z0_, z1_, z2_, z3_, -⟩ := K_M0.zs hK; have HK := Lib.hid hK; clear hK
  go_wp2_with (go_at_call 10; refine (PB.out _).mono ?_; rintro e w' ⟨rfl, rfl⟩)
  refine (NM.out _).mono ?_
  rintro e w2 ⟨⟨u, v, rfl, hu, hv, hd⟩, hb⟩
  clear c0_ c1_ c2_ d0_ f0_ d1_ f1_ d2_ f2_ d3_ f3_ d4_ f4_ d5_ f5_ d6_ f6_ d7_ f7_ z0_ z1_ z2_ z3_
  have hK := K_M0.below hb HK.out
  clear hb HK
  obtain ⟨c0_, c1_, c2_, d0_, f0_, d1_, f1_, d2_, f2_, d3_, f3_, d4_, f4_, d5_, f5_, d6_, f6_, d7_, f7_⟩ := K_M0.cells hK; obtain ⟨z0_, z1_, z2_, z3_, -⟩ := K_M0.zs hK; have HK := Lib.hid hK; clear hK
  have hu' : (u : Int) < p := by have := HPP.out; omega
  have hv' : (v : Int) < p := by have := HPP.out; omega
  have HD := Lib.hid (show p ∣ (u : Int) * u - (A * v * v + B) from HPP.out ▸ hd)
  obtain ⟨m1, m2⟩ := Alm.mb 1000 10000 (a := -A) (b := v) ⟨by omega, by omega⟩ ⟨by omega, by omega⟩
  clear hd hu hv
  go_wp2_with fail
  refine (residue_any A p _ _ (by simp [go_sem, c0_, c1_, c2_, d0_, f0_, d1_, f1_, d2_, f2_, d3_, f3_, d4_, f4_, d5_, f5_, d6_, f6_, d7_, f7_]) p3 pm (by omega) (by omega)).mono ?_
  rintro e w3 ⟨rfl, hb⟩
  clear c0_ c1_ c2_ d0_ f0_ d1_ f1_ d2_ f2_ d3_ f3_ d4_ f4_ d5_ f5_ d6_ f6_ d7_ f7_ z0_ z1_ z2_ z3_
  have hK := K_M0.below hb HK.out
  clear hb HK
  obtain ⟨c0_, c1_, c2_, d0_, f0_, d1_, f1_, d2_, f2_, d3_, f3_, d4_, f4_, d5_, f5_, d6_, f6_, d7_, f7_⟩ := K_M0.cells hK; obtain ⟨z0_, z1_, z2_, z3_, -⟩ := K_M0.zs hK; have HK := Lib.hid hK; clear hK
  go_wp2_with fail
  refine (residue_any (-A * v) p _ _ (by simp [go_sem, c0_, c1_, c2_, d0_, f0_, d1_, f1_, d2_, f2_, d3_, f3_, d4_, f4_, d5_, f5_, d6_, f6_, d7_, f7_]) p3 pm (by omega) (by omega)).mono ?_
  rintro e w4 ⟨rfl, hb⟩
  have hK : K_M1 A B p (A % p) w.heap.size (w.heap.size + 1) (w.heap.size + 2) (w.heap.size + 3) w w4 := K_M1.below hb ⟨by simp [go_sem, c0_, c1_, c2_, d0_, f0_, d1_, f1_, d2_, f2_, d3_, f3_, d4_, f4_, d5_, f5_, d6_, f6_, d7_, f7_], by simp [go_sem, c0_, c1_, c2_, d0_, f0_, d1_, f1_, d2_, f2_, d3_, f3_, d4_, f4_, d5_, f5_, d6_, f6_, d7_, f7_], by simp [go_sem, c0_, c1_, c2_, d0_, f0_, d1_, f1_, d2_, f2_, d3_, f3_, d4_, f4_, d5_, f5_, d6_, f6_, d7_, f7_], by have HB := Lib.hid (K_M0.bel HK.out); (repeat (first | (with_reducible exact Below.refl _ _) | (with_reducible exact HB.out) | (with_reducible refine below_draws ?_ _) | (with_reducible refine Below.alloc ?_ (by go_size) _) | (with_reducible refine Below.setCell ?_ (by go_size) _) | (with_reducible refine Below.alloc ?_ (by simp <;> omega) _) | (with_reducible refine Below.setCell ?_ (by simp <;> omega) _)))⟩
  clear c0_ c1_ c2_ d0_ f0_ d1_ f1_ d2_ f2_ d3_ f3_ d4_ f4_ d5_ f5_ d6_ f6_ d7_ f7_ z0_ z1_ z2_ z3_
  clear hb HK
  obtain ⟨c0_, c1_, c2_, c3_, c4_, c5_, c6_, f0_, f1_, f2_, f3_, d4_, f4_, d5_, f5_, d6_, f6_, d7_, f7_⟩ := K_M1.cells hK; obtain ⟨z0_, z1_, z2_, z3_, -⟩ := K_M1.zs hK; have HK := Lib.hid hK; clear hK
  go_wp2_with fail
  refine (residue_any (-u) p _ _ (by simp [go_sem, c0_, c1_, c2_, c3_, c4_, c5_, c6_, f0_, f1_, f2_, f3_, d4_, f4_, d5_, f5_, d6_, f6_, d7_, f7_]) p3 pm (by omega) (by omega)).mono ?_
  rintro e w5 ⟨rfl, hb⟩
  clear c0_ c1_ c2_ c3_ c4_ c5_ c6_ f0_ f1_ f2_ f3_ d4_ f4_ d5_ f5_ d6_ f6_ d7_ f7_ z0_ z1_ z2_ z3_
  have hK := K_M1.below hb HK.out
  clear hb HK
  obtain ⟨c0_, c1_, c2_, c3_, c4_, c5_, c6_, f0_, f1_, f2_, f3_, d4_, f4_, d5_, f5_, d6_, f6_, d7_, f7_⟩ := K_M1.cells hK; obtain ⟨z0_, z1_, z2_, z3_, -⟩ := K_M1.zs hK; have HK := Lib.hid hK; clear hK
  go_wp2_with fail
  have hk : K_M2 A B p (A % p) u (-A * v % p) v (-u % p) w.heap.size (w.heap.size + 1) (w.heap.size + 2) (w.heap.size + 3) w ((((w5.setCell ⟨w.heap.size + 3, 0, none⟩ (.int .i64 u)).setCell ⟨w.heap.size + 3, 1, none⟩ (.int .i64 (-A * v % p))).setCell ⟨w.heap.size + 3, 2, none⟩ (.int .i64 v)).setCell ⟨w.heap.size + 3, 3, none⟩ (.int .i64 (-u % p))) := ⟨by simp [go_sem, c0_, c1_, c2_, c3_, c4_, c5_, c6_, f0_, f1_, f2_, f3_, d4_, f4_, d5_, f5_, d6_, f6_, d7_, f7_], by simp [go_sem, c0_, c1_, c2_, c3_, c4_, c5_, c6_, f0_, f1_, f2_, f3_, d4_, f4_, d5_, f5_, d6_, f6_, d7_, f7_], by simp [go_sem, c0_, c1_, c2_, c3_, c4_, c5_, c6_, f0_, f1_, f2_, f3_, d4_, f4_, d5_, f5_, d6_, f6_, d7_, f7_], by have HB := Lib.hid (K_M1.bel HK.out); (repeat (first | (with_reducible exact Below.refl _ _) | (with_reducible exact HB.out) | (with_reducible refine below_draws ?_ _) | (with_reducible refine Below.alloc ?_ (by go_size) _) | (with_reducible refine Below.setCell ?_ (by go_size) _) | (with_reducible refine Below.alloc ?_ (by simp <;> omega) _) | (with_reducible refine Below.setCell ?_ (by simp <;> omega) _)))⟩
  generalize ((((w5.setCell ⟨w.heap.size + 3, 0, none⟩ (.int .i64 u)).setCell ⟨w.heap.size + 3, 1, none⟩ (.int .i64 (-A * v % p))).setCell ⟨w.heap.size + 3, 2, none⟩ (.int .i64 v)).setCell ⟨w.heap.size + 3, 3, none⟩ (.int .i64 (-u % p))) = w6 at hk ⊢
  clear c0_ c1_ c2_ c3_ c4_ c5_ c6_ f0_ f1_ f2_ f3_ d4_ f4_ d5_ f5_ d6_ f6_ d7_ f7_ z0_ z1_ z2_ z3_
  clear HK
  have HK := Lib.hid hk
  obtain ⟨c0_, c1_, c2_, c3_, c4_, c5_, c6_, c7_, c8_, c9_, c10_, f0_, f1_, f2_, f3_, f4_, f5_, f6_, f7_⟩ := K_M2.cells hk
  obtain ⟨z0_, z1_, z2_, z3_, -⟩ := K_M2.zs hk
  clear hk
  go_region
  go_wp2
  exact bodyPost_ret (v := .tuple #[.agg #[.int .i64 0, .int .i64 (A % p), .int .i64 1, .int .i64 0], .agg #[.int .i64 u, .int .i64 (-A * v % p), .int .i64 v, .int .i64 (-u % p)], .int .i64 0]) (by simp [results, Try.results21, go_sem, c0_, c1_, c2_, c3_, c4_, c5_, c6_, c7_, c8_, c9_, c10_, f0_, f1_, f2_, f3_, f4_, f5_, f6_, f7_]) rfl ⟨⟨u, v, rfl, hu', hv', HD.out⟩, by have HB := Lib.hid (K_M2.bel HK.out); refine below_draws ?_ 1; (repeat (first | (with_reducible exact Below.refl _ _) | (with_reducible exact HB.out) | (with_reducible refine below_draws ?_ _) | (with_reducible refine Below.alloc ?_ (by go_size) _) | (with_reducible refine Below.setCell ?_ (by go_size) _) | (with_reducible refine Below.alloc ?_ (by simp <;> omega) _) | (with_reducible refine Below.setCell ?_ (by simp <;> omega) _)))⟩
end Go.Proofs.Ytgbnmnkgelklbaa.Mo
namespace Go.Proofs.Ytgbnmnkgelklbaa.Mo
open Go.RowKit
open Nt (Pr)
open Al
open Rm (K_Rk K_Rk.below K_Rk.bel K_Rk.cells K_Rk.zs K_Rk.alloc K_Rk.drew K_Rk.draws)
set_option linter.unusedVariables false
set_option linter.unusedSimpArgs false
set_option maxRecDepth 100000
theorem ck_ways {A B p : Int} : (Al.withinB p 3 10000 = false ∧ mdE A B p = 11) ∨ Al.withinB p 3 10000 = true ∧ 3 ≤ p ∧ ((prB p = false ∧ mdE A B p = 11) ∨ prB p = true ∧ (((A.tmod p == 0) = true ∧ mdE A B p = 11) ∨ (A.tmod p == 0) = false ∧ (((B.tmod p == 0) = true ∧ mdE A B p = 11) ∨ (B.tmod p == 0) = false ∧ mdE A B p = 0))) := by
  rcases h1 : Al.withinB p 3 10000 with _ | _
  · refine .inl ⟨rfl, mdE_no fun h => ?_⟩
    unfold Al.withinB at h1
    exact absurd h.1 (of_decide_eq_false h1)
  have h1' := Al.withinB_of h1
  refine .inr ⟨rfl, h1'.1, ?_⟩
  rcases h4 : prB p with _ | _
  · exact .inl ⟨rfl, mdE_no fun h => by rw [h4] at h; exact absurd h.2.1 (by decide)⟩
  refine .inr ⟨rfl, ?_⟩
  rcases h6 : (A.tmod p == 0) with _ | _
  · refine .inr ⟨rfl, ?_⟩
    rcases h7 : (B.tmod p == 0) with _ | _
    · exact .inr ⟨rfl, if_pos ⟨h1', h4, h6, h7⟩⟩
    · exact .inl ⟨rfl, mdE_no fun h => by rw [h7] at h; exact absurd h.2.2.2 (by decide)⟩
  · exact .inl ⟨rfl, mdE_no fun h => by rw [h6] at h; exact absurd h.2.2.1 (by decide)⟩
set_option maxHeartbeats 3200000 in
theorem CheckModulus_any (A B p : Int) (w : World) :
    Calls Try.prog 20 #[.agg #[.int .i64 A, .int .i64 B], .int .i64 p] w fun e w' => e = .returned (.int .i64 (mdE A B p)) ∧ Below w.heap.size w w' := by
  have PB := Lib.hid (risPrime_any p)
  rcases ck_ways (A := A) (B := B) (p := p) with ⟨t0, hm⟩ | ⟨t0, hp3, ⟨t1, hm⟩ | ⟨t1, ⟨t2, hm⟩ | ⟨t2, ⟨t3, hm⟩ | ⟨t3, hm⟩⟩⟩⟩
  all_goals
    rw [hm]
    clear hm
    try rw [t1] at PB
    try clear t1
    go_enter Try.func20, Try.ntmps20
    go_wp2_with (first | (go_at_call 23; refine (Within_any _ _ _ _).mono ?_; rintro e w' ⟨rfl, rfl⟩) | (go_at_call 49; refine (PB.out _).mono ?_; rintro e w' ⟨rfl, rfl⟩))
    go_ret
    exact ⟨rfl, by (repeat (first | (with_reducible exact Below.refl _ _) | (with_reducible exact HB.out) | (with_reducible refine below_draws ?_ _) | (with_reducible refine Below.alloc ?_ (by go_size) _) | (with_reducible refine Below.setCell ?_ (by go_size) _) | (with_reducible refine Below.alloc ?_ (by simp <;> omega) _) | (with_reducible refine Below.setCell ?_ (by simp <;> omega) _)))⟩
end Go.Proofs.Ytgbnmnkgelklbaa.Mo
namespace Go.Proofs.Ytgbnmnkgelklbaa.Mo
open Go.RowKit
open Nt (Pr)
open Al
set_option linter.unusedVariables false
set_option linter.unusedSimpArgs false
set_option maxRecDepth 100000
theorem bmod_pos {n p : Int} (hp : 0 < p) : (n.tmod p < 0 → n.tmod p + p = n % p) ∧ (0 ≤ n.tmod p → n.tmod p = n % p) ∧ -p < n.tmod p ∧ n.tmod p < p := by
  have h1 : -p < n.tmod p ∧ n.tmod p < p := by
    have := Int.natAbs_tmod n p
    have h2 : n.natAbs % p.natAbs < p.natAbs := Nat.mod_lt _ (by omega)
    omega
  have h3 : n.tmod p % p = n % p := by rw [Int.tmod_def, Int.sub_mul_emod_self_left]
  refine ⟨fun h => ?_, fun h => ?_, h1⟩
  · rw [← h3, ← Int.add_emod_right]; exact (Int.emod_eq_of_lt (by omega) (by omega)).symm
  · rw [← h3]; exact (Int.emod_eq_of_lt h (by omega)).symm
set_option maxHeartbeats 3200000 in
theorem bMod_any (n p : Int) (w : World) (hp : 0 < p) (hp' : p ≤ 10000) (h1 : -10000000 ≤ n) (h2 : n ≤ 10000000) :
    Calls Try.prog 25 #[.int .i64 n, .int .i64 p] w fun e w' => e = .returned (.int .i64 (n % p)) ∧ w = w' := by
  have hz : (p == 0) = false := by rw [beq_eq_false_iff_ne]; omega
  have BP := Lib.hid (bmod_pos (n := n) hp)
  obtain ⟨t1, t2⟩ := BP.out.2.2
  go_enter Try.func25, Try.ntmps25
  go_wp2_with fail
  all_goals go_ret
  · have h : n.tmod p < 0 := by assumption
    exact ⟨by rw [BP.out.1 h]; rfl, rfl⟩
  · have h : 0 ≤ n.tmod p := by assumption
    exact ⟨by rw [BP.out.2.1 h]; rfl, rfl⟩
/-- what a walk keeps: cells, and that nothing that was there has turned -/
def K_P4 (n0 n1 n2 n3 m0 m1 m2 m3 : Int) (b1 b2 R : Nat) (w w' : World) : Prop := KL w [(b1, 0, .int .i64 n0), (b1, 1, .int .i64 n1), (b1, 2, .int .i64 n2), (b1, 3, .int .i64 n3), (b2, 0, .int .i64 m0), (b2, 1, .int .i64 m1), (b2, 2, .int .i64 m2), (b2, 3, .int .i64 m3)] [(R, 0), (R, 1), (R, 2), (R, 3)] w'
theorem K_P4.below {n0 n1 n2 n3 m0 m1 m2 m3 : Int} {b1 b2 R : Nat} {w w1 w2 : World} (hb : Below w1.heap.size w1 w2) (h : K_P4 n0 n1 n2 n3 m0 m1 m2 m3 b1 b2 R w w1) : K_P4 n0 n1 n2 n3 m0 m1 m2 m3 b1 b2 R w w2 := KL.below hb h
theorem K_P4.draws {n0 n1 n2 n3 m0 m1 m2 m3 : Int} {b1 b2 R : Nat} {w w1 : World} (n : Nat) (h : K_P4 n0 n1 n2 n3 m0 m1 m2 m3 b1 b2 R w w1) : K_P4 n0 n1 n2 n3 m0 m1 m2 m3 b1 b2 R w (w1.drewN n) := KL.draws n h
theorem K_P4.drew {n0 n1 n2 n3 m0 m1 m2 m3 : Int} {b1 b2 R : Nat} {w w1 : World} (h : K_P4 n0 n1 n2 n3 m0 m1 m2 m3 b1 b2 R w w1) : K_P4 n0 n1 n2 n3 m0 m1 m2 m3 b1 b2 R w w1.drew := KL.draws 1 h
theorem K_P4.alloc {n0 n1 n2 n3 m0 m1 m2 m3 : Int} {b1 b2 R : Nat} {w w1 : World} (o : Obj) (h : K_P4 n0 n1 n2 n3 m0 m1 m2 m3 b1 b2 R w w1) : K_P4 n0 n1 n2 n3 m0 m1 m2 m3 b1 b2 R w (w1.alloc o) := KL.alloc o h
theorem K_P4.set {n0 n1 n2 n3 m0 m1 m2 m3 : Int} {b1 b2 R : Nat} {w w1 : World} (h : K_P4 n0 n1 n2 n3 m0 m1 m2 m3 b1 b2 R w w1) (b i : Nat) (v : Value) (hb : b ≠ b1 ∧ b ≠ b2 ∧ w.heap.size ≤ b) : K_P4 n0 n1 n2 n3 m0 m1 m2 m3 b1 b2 R w (w1.setCell ⟨b, i, none⟩ v) :=
  KL.set h b i v (by intro x hx; simp only [List.mem_cons, List.not_mem_nil, or_false] at hx; rcases hx with rfl | rfl | rfl | rfl | rfl | rfl | rfl | rfl <;> simp only [] <;> omega) (by omega)
theorem K_P4.bel {n0 n1 n2 n3 m0 m1 m2 m3 : Int} {b1 b2 R : Nat} {w w1 : World} (h : K_P4 n0 n1 n2 n3 m0 m1 m2 m3 b1 b2 R w w1) : Below w.heap.size w w1 := KL.bel h
theorem K_P4.cells {n0 n1 n2 n3 m0 m1 m2 m3 : Int} {b1 b2 R : Nat} {w w' : World} (h : K_P4 n0 n1 n2 n3 m0 m1 m2 m3 b1 b2 R w w') : w'.cell? ⟨b1, 0, none⟩ = some (.int .i64 n0) ∧ w'.cell? ⟨b1, 1, none⟩ = some (.int .i64 n1) ∧ w'.cell? ⟨b1, 2, none⟩ = some (.int .i64 n2) ∧ w'.cell? ⟨b1, 3, none⟩ = some (.int .i64 n3) ∧ w'.cell? ⟨b2, 0, none⟩ = some (.int .i64 m0) ∧ w'.cell? ⟨b2, 1, none⟩ = some (.int .i64 m1) ∧ w'.cell? ⟨b2, 2, none⟩ = some (.int .i64 m2) ∧ w'.cell? ⟨b2, 3, none⟩ = some (.int .i64 m3) ∧ w'.cell? ⟨R, 0, none⟩ = some (cv w' R 0) ∧ w'.frozen? ⟨R, 0, none⟩ = false ∧ w'.cell? ⟨R, 1, none⟩ = some (cv w' R 1) ∧ w'.frozen? ⟨R, 1, none⟩ = false ∧ w'.cell? ⟨R, 2, none⟩ = some (cv w' R 2) ∧ w'.frozen? ⟨R, 2, none⟩ = false ∧ w'.cell? ⟨R, 3, none⟩ = some (cv w' R 3) ∧ w'.frozen? ⟨R, 3, none⟩ = false := ⟨h.c (b1, 0, .int .i64 n0) (by simp), h.c (b1, 1, .int .i64 n1) (by simp), h.c (b1, 2, .int .i64 n2) (by simp), h.c (b1, 3, .int .i64 n3) (by simp), h.c (b2, 0, .int .i64 m0) (by simp), h.c (b2, 1, .int .i64 m1) (by simp), h.c (b2, 2, .int .i64 m2) (by simp), h.c (b2, 3, .int .i64 m3) (by simp), h.d (R, 0) (by simp), h.f (R, 0) (by simp), h.d (R, 1) (by simp), h.f (R, 1) (by simp), h.d (R, 2) (by simp), h.f (R, 2) (by simp), h.d (R, 3) (by simp), h.f (R, 3) (by simp)⟩
theorem K_P4.zs {n0 n1 n2 n3 m0 m1 m2 m3 : Int} {b1 b2 R : Nat} {w w' : World} (h : K_P4 n0 n1 n2 n3 m0 m1 m2 m3 b1 b2 R w w') : b1 < w'.heap.size ∧ b2 < w'.heap.size ∧ R < w'.heap.size ∧ True := ⟨KL.z h (x := (b1, 0, .int .i64 n0)) (by simp), KL.z h (x := (b2, 0, .int .i64 m0)) (by simp), KL.zf h (x := (R, 0)) (by simp), trivial⟩
theorem K_P4.ks {n0 n1 n2 n3 m0 m1 m2 m3 : Int} {b1 b2 R : Nat} {w w' : World} (h : K_P4 n0 n1 n2 n3 m0 m1 m2 m3 b1 b2 R w w') : (w'.cell? ⟨b1, 0, none⟩ = some (.int .i64 n0) ∧ w'.cell? ⟨b1, 1, none⟩ = some (.int .i64 n1) ∧ w'.cell? ⟨b1, 2, none⟩ = some (.int .i64 n2) ∧ w'.cell? ⟨b1, 3, none⟩ = some (.int .i64 n3) ∧ w'.cell? ⟨b2, 0, none⟩ = some (.int .i64 m0) ∧ w'.cell? ⟨b2, 1, none⟩ = some (.int .i64 m1) ∧ w'.cell? ⟨b2, 2, none⟩ = some (.int .i64 m2) ∧ w'.cell? ⟨b2, 3, none⟩ = some (.int .i64 m3) ∧ w'.cell? ⟨R, 0, none⟩ = some (cv w' R 0) ∧ w'.frozen? ⟨R, 0, none⟩ = false ∧ w'.cell? ⟨R, 1, none⟩ = some (cv w' R 1) ∧ w'.frozen? ⟨R, 1, none⟩ = false ∧ w'.cell? ⟨R, 2, none⟩ = some (cv w' R 2) ∧ w'.frozen? ⟨R, 2, none⟩ = false ∧ w'.cell? ⟨R, 3, none⟩ = some (cv w' R 3) ∧ w'.frozen? ⟨R, 3, none⟩ = false) ∧ K_P4 n0 n1 n2 n3 m0 m1 m2 m3 b1 b2 R w w' := ⟨h.cells, h⟩
theorem tm_nn {n p : Int} (h : 0 ≤ n) : n.tmod p = n % p := Int.tmod_eq_emod_of_nonneg h
end Go.Proofs.Ytgbnmnkgelklbaa.Mo
