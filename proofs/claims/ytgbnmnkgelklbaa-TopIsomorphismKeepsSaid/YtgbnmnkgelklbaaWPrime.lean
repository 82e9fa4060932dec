/-
  WALKS: the least divisor, and whether a number is a prime, in both packages.
-/
import Derived.Test.YtgbnmnkgelklbaaGcd
import Derived.Test.YtgbnmnkgelklbaaNt
namespace Go.Proofs.Ytgbnmnkgelklbaa
open Go.RowKit
set_option linter.unusedVariables false
set_option maxRecDepth 100000
open Nt (Pr)
/-- no number from 2 on, below d, divides n -/
def Free (n d : Nat) : Prop := ∀ e, 2 ≤ e → e < d → ¬ e ∣ n
theorem Free.two (n : Nat) : Free n 2 := fun e h1 h2 => by omega
theorem Free.next {n d : Nat} (h : Free n d) (hd : ¬ d ∣ n) : Free n (d + 1) := fun e h1 h2 => by
  by_cases he : e = d
  · rw [he]; exact hd
  · exact h e h1 (by omega)
theorem Free.step {n d : Nat} (h : Free n d) (h2 : 2 ≤ d) (ho : d = 2 ∨ d % 2 = 1) (hd : ¬ d ∣ n) : Free n (d + (1 + d % 2)) := by
  have h3 := h.next hd
  rcases ho with rfl | ho
  · exact h3
  · rw [ho]
    refine h3.next fun hdv => ?_
    have : 2 ∣ n := Nat.dvd_trans ⟨(d + 1) / 2, by omega⟩ hdv
    exact h 2 (by omega) (by omega) this
/-- past the root: n is its own least divisor -/
theorem Free.root {n d : Nat} (h : Free n d) (hn : 2 ≤ n) (hd : n < d * d) : Free n n := fun e h1 h2 hdv => by
  obtain ⟨f, hf⟩ := hdv
  by_cases he : e < d
  · exact h e h1 he ⟨f, hf⟩
  · by_cases hfd : f < d
    · by_cases hf2 : 2 ≤ f
      · exact h f hf2 hfd ⟨e, by rw [hf, Nat.mul_comm]⟩
      · have : f = 0 ∨ f = 1 := by omega
        rcases this with rfl | rfl <;> omega
    · have : d * d ≤ e * f := Nat.mul_le_mul (by omega) (by omega)
      omega
theorem Free.pr {n : Nat} (hn : 2 ≤ n) (h : Free n n) : Pr n := by
  refine ⟨hn, fun d hd => ?_⟩
  have h1 := Nat.le_of_dvd (by omega) hd
  have h0 : d ≠ 0 := by rintro rfl; have := Nat.eq_zero_of_zero_dvd hd; omega
  by_cases h2 : 2 ≤ d
  · by_cases h3 : d < n
    · exact absurd hd (h d h2 h3)
    · exact .inr (by omega)
  · exact .inl (by omega)
noncomputable def prB (n : Int) : Bool := @decide (2 ≤ n ∧ n ≤ 1000000000 ∧ Pr n.toNat) (Classical.propDecidable _)
theorem prB_of {n : Int} (h : prB n = true) : 2 ≤ n ∧ n ≤ 1000000000 ∧ Pr n.toNat := by unfold prB at h; exact @of_decide_eq_true _ (Classical.propDecidable _) h
theorem prB_t {n : Int} (h : 2 ≤ n ∧ n ≤ 1000000000 ∧ Pr n.toNat) : prB n = true := by unfold prB; exact @decide_eq_true _ (Classical.propDecidable _) h
theorem prB_f {n : Int} (h : ¬ (2 ≤ n ∧ n ≤ 1000000000 ∧ Pr n.toNat)) : prB n = false := by unfold prB; exact @decide_eq_false _ (Classical.propDecidable _) h
def LdRel (n d : Nat) : Prop := 2 ≤ d ∧ (d = 2 ∨ d % 2 = 1) ∧ Free n d ∧ d ≤ 1000000002
def LdEnd (n : Nat) (e : Ending) : Prop := ∃ r : Nat, e = .returned (.int .i64 r) ∧ 2 ≤ r ∧ r ∣ n ∧ Free n r
theorem sq_bd {d : Nat} (h : d ≤ 1000000002) : 0 ≤ (d : Int) * d ∧ (d : Int) * d ≤ 1000000004000000004 := by
  have h1 : d * d ≤ 1000000002 * 1000000002 := Nat.mul_le_mul h h
  have e : (d : Int) * d = ((d * d : Nat) : Int) := by rw [Int.natCast_mul]
  rw [e]; omega
theorem emod_dvd {n d : Nat} : ((n : Int) % d = 0) ↔ d ∣ n := by
  constructor
  · intro h; exact Int.natCast_dvd_natCast.1 (Int.dvd_of_emod_eq_zero h)
  · intro h; exact Int.emod_eq_zero_of_dvd (Int.natCast_dvd_natCast.2 h)
set_option maxHeartbeats 1000000 in
theorem ld_any (n d0 : Nat) (w : World) (hn : 2 ≤ n) (hn' : n ≤ 1000000000) (h0 : LdRel n d0) :
    Calls Try.prog 34 #[.int .i64 n, .int .i64 d0] w fun e w' => LdEnd n e ∧ w = w' := by
  go_enter Try.func34, Try.ntmps34
  go_wp2
  go_loop [5] (fun t5 => ∃ d : Nat, LdRel n d ∧ t5 = .int .i64 d) (fun t5 => (1000000010 - intOf t5).toNat)
  case atStart => exact ⟨d0, h0, rfl⟩
  case round =>
    obtain ⟨d, hrel, rfl⟩ := hrel
    obtain ⟨d1, d2, d3, d4⟩ := id hrel
    obtain ⟨s1, s2⟩ := sq_bd d4
    have HR := Lib.hid hrel
    have D2 := Lib.hid d2
    have D3 := Lib.hid d3
    have ed : (d : Int) * d = ((d * d : Nat) : Int) := by rw [Int.natCast_mul]
    have ED := Lib.hid ed
    clear hrel d2 d3 ed
    by_cases hle : (d : Int) * d ≤ n
    · have hdl : d ≤ 40000 := by
        have h5 : d * d ≤ 1000000000 := by have := ED.out; omega
        by_cases h6 : d ≤ 40000
        · exact h6
        · have : 40000 * 40000 ≤ d * d := Nat.mul_le_mul (by omega) (by omega)
          omega
      by_cases hd : (n : Int) % d = 0
      · have ht : ((n : Int) % d == 0) = true := by rw [hd]; rfl
        have HD := Lib.hid (emod_dvd.1 hd)
        clear hd
        go_wp2
        go_ret
        exact ⟨⟨d, rfl, d1, HD.out, D3.out⟩, rfl⟩
      · have ht : ((n : Int) % d == 0) = false := by simp [hd]
        have HD := Lib.hid (fun h => hd (emod_dvd.2 h))
        have hst := D3.out.step d1 D2.out HD.out
        have HS := Lib.hid hst
        have b2 : 0 ≤ (d : Int) % 2 ∧ (d : Int) % 2 ≤ 1 := by omega
        obtain ⟨b2, b2'⟩ := b2
        clear hd hst
        go_wp2
        go_round
        case rel => exact ⟨d + (1 + d % 2), ⟨by omega, by have := D2.out; omega, HS.out, by omega⟩, by go_num⟩
        case measure => simp [intOf]; omega
    · have hlt : n < d * d := by have := ED.out; omega
      have HF := Lib.hid (D3.out.root hn hlt)
      clear hlt
      go_wp2
      go_ret
      exact ⟨⟨n, rfl, hn, Nat.dvd_refl n, HF.out⟩, rfl⟩
set_option maxHeartbeats 1000000 in
theorem isPrime_any (n : Int) (w : World) : Calls Try.prog 10 #[.int .i64 n] w fun e w' => e = .returned (.bool (prB n)) ∧ w = w' := by
  by_cases h1 : 2 ≤ n
  · by_cases h2 : n ≤ 1000000000
    · obtain ⟨k, rfl⟩ : ∃ k : Nat, n = k := ⟨n.toNat, by omega⟩
      go_enter Try.func10, Try.ntmps10
      go_wp2_with fail
      refine (ld_any k 2 _ (by omega) (by omega) ⟨by omega, .inl rfl, Free.two k, by omega⟩).mono ?_
      rintro e w' ⟨⟨r, rfl, r1, r2, r3⟩, rfl⟩
      have HR2 := Lib.hid r2
      have HR3 := Lib.hid r3
      have hrk : r ≤ k := Nat.le_of_dvd (by omega) r2
      clear r2 r3
      by_cases he : r = k
      · have ht : ((r : Int) == k) = true := by rw [he]; simp
        have hp : prB (k : Int) = true := prB_t ⟨h1, h2, by simp; have h3 := HR3.out; rw [he] at h3; exact h3.pr (by omega)⟩
        have HP := Lib.hid hp
        clear hp he
        go_wp2
        go_ret
        exact ⟨by rw [HP.out]; rfl, rfl⟩
      · have ht : ((r : Int) == k) = false := by simp; omega
        have hp : prB (k : Int) = false := prB_f fun h => by
          have h3 := h.2.2
          simp at h3
          rcases h3.2 r HR2.out with e | e
          · omega
          · exact he e
        have HP := Lib.hid hp
        clear hp he
        go_wp2
        go_ret
        exact ⟨by rw [HP.out]; rfl, rfl⟩
    · have hp : prB n = false := prB_f fun h => h2 h.2.1
      have HP := Lib.hid hp
      clear hp
      go_enter Try.func10, Try.ntmps10
      go_wp2
      go_ret
      exact ⟨by rw [HP.out]; rfl, rfl⟩
  · have hp : prB n = false := prB_f fun h => h1 h.1
    have HP := Lib.hid hp
    clear hp
    go_enter Try.func10, Try.ntmps10
    go_wp2
    go_ret
    exact ⟨by rw [HP.out]; rfl, rfl⟩
set_option maxHeartbeats 1000000 in
theorem risPrime_any (n : Int) (w : World) : Calls Try.prog 49 #[.int .i64 n] w fun e w' => e = .returned (.bool (prB n)) ∧ w = w' := by
  by_cases h1 : 2 ≤ n
  · by_cases h2 : n ≤ 1000000000
    · obtain ⟨k, rfl⟩ : ∃ k : Nat, n = k := ⟨n.toNat, by omega⟩
      go_enter Try.func49, Try.ntmps49
      go_wp2
      go_loop [3] (fun t => ∃ d : Nat, 2 ≤ d ∧ d ≤ 40001 ∧ Free k d ∧ t = .int .i64 d) (fun t => (50000 - intOf t).toNat)
      case atStart => exact ⟨2, by omega, by omega, Free.two k, rfl⟩
      case round =>
        obtain ⟨d, d1, d4, d3, rfl⟩ := hrel
        obtain ⟨s1, s2⟩ := sq_bd (d := d) (by omega)
        have D3 := Lib.hid d3
        have ed : (d : Int) * d = ((d * d : Nat) : Int) := by rw [Int.natCast_mul]
        have ED := Lib.hid ed
        clear d3 ed
        by_cases hle : (d : Int) * d ≤ k
        · have hdl : d ≤ 40000 := by
            have h5 : d * d ≤ 1000000000 := by have := ED.out; omega
            by_cases h6 : d ≤ 40000
            · exact h6
            · have : 40000 * 40000 ≤ d * d := Nat.mul_le_mul (by omega) (by omega)
              omega
          by_cases hd : (k : Int) % d = 0
          · have ht : ((k : Int) % d == 0) = true := by rw [hd]; rfl
            have hp : prB (k : Int) = false := prB_f fun h => by
              have h3 := h.2.2
              simp at h3
              rcases h3.2 d (emod_dvd.1 hd) with e | e
              · omega
              · have h5 : d * 2 ≤ d * d := Nat.mul_le_mul_left _ d1
                have := ED.out; omega
            have HP := Lib.hid hp
            clear hp hd
            go_wp2
            go_ret
            exact ⟨by rw [HP.out]; rfl, rfl⟩
          · have ht : ((k : Int) % d == 0) = false := by simp [hd]
            have HS := Lib.hid (D3.out.next (fun h => hd (emod_dvd.2 h)))
            clear hd
            go_wp2
            go_round
            case rel => exact ⟨d + 1, by omega, by omega, HS.out, by go_num⟩
            case measure => simp [intOf]; omega
        · have hlt : k < d * d := by have := ED.out; omega
          have hp : prB (k : Int) = true := prB_t ⟨h1, h2, by simp; exact (D3.out.root (by omega) hlt).pr (by omega)⟩
          have HP := Lib.hid hp
          clear hp hlt
          go_wp2
          go_ret
          exact ⟨by rw [HP.out]; rfl, rfl⟩
    · have hp : prB n = false := prB_f fun h => h2 h.2.1
      have HP := Lib.hid hp
      clear hp
      go_enter Try.func49, Try.ntmps49
      go_wp2
      go_ret
      exact ⟨by rw [HP.out]; rfl, rfl⟩
  · have hp : prB n = false := prB_f fun h => h1 h.1
    have HP := Lib.hid hp
    clear hp
    go_enter Try.func49, Try.ntmps49
    go_wp2
    go_ret
    exact ⟨by rw [HP.out]; rfl, rfl⟩
end Go.Proofs.Ytgbnmnkgelklbaa
