/-
  WALK: Jacobi of the reference package, along the prime powers of its modulus.
-/
import Derived.Test.YtcbdnnboddahkaaFac
import Derived.Test.YtcbdnnboddahkaaHil
namespace Go.Proofs.Ytcbdnnboddahkaa
open Go.RowKit
set_option linter.unusedVariables false
set_option maxRecDepth 100000
open Nt (Pr leg Sgn jac)
theorem sgn_bd' {x : Int} (h : Sgn x) : -1 ≤ x ∧ x ≤ 1 := by rcases h with rfl | rfl | rfl <;> omega
def jv (a : Int) : List (Nat × Nat) → Int
  | [] => 1
  | q :: l => leg a q.1 ^ q.2 * jv a l
theorem jac_pow (a : Int) {p : Nat} (hp : Pr p) (ho : p % 2 = 1) : ∀ k : Nat, jac a (p ^ k) = leg a p ^ k ∧ (p ^ k) % 2 = 1
  | 0 => ⟨by rw [Nat.pow_zero, Int.pow_zero]; exact Nt.jac_one a, rfl⟩
  | k + 1 => by
    obtain ⟨h1, h2⟩ := jac_pow a hp ho k
    rw [Nat.pow_succ, Int.pow_succ]
    exact ⟨by rw [Nt.jac_mul_right a h2 ho, h1, Nt.jac_prime a hp ho], by rw [Nat.mul_mod, h2, ho]⟩
theorem jac_jv (a : Int) : ∀ {l : List (Nat × Nat)}, (∀ q ∈ l, Pr q.1 ∧ q.1 % 2 = 1) → jac a (pprod l) = jv a l ∧ pprod l % 2 = 1
  | [], _ => ⟨Nt.jac_one a, rfl⟩
  | q :: l, h => by
    obtain ⟨h1, h2⟩ := jac_jv a (l := l) (fun r hr => h r (by simp [hr]))
    obtain ⟨h3, h4⟩ := jac_pow a (h q (by simp)).1 (h q (by simp)).2 q.2
    simp only [pprod, jv]
    exact ⟨by rw [Nt.jac_mul_right a h4 h2, h1, h3], by rw [Nat.mul_mod, h4, h2]⟩
theorem dvd_pprod : ∀ {l : List (Nat × Nat)} {q : Nat × Nat}, PP l → q ∈ l → q.1 ∣ pprod l
  | r :: l, q, hp, h => by
    simp only [pprod]
    rcases List.mem_cons.1 h with rfl | h
    · exact Nat.dvd_trans ⟨q.1 ^ (q.2 - 1), by rw [← Nat.pow_succ']; congr 1; have := (hp q (by simp)).2; omega⟩ (Nat.dvd_mul_right _ _)
    · exact Nat.dvd_trans (dvd_pprod (fun r hr => hp r (by simp [hr])) h) (Nat.dvd_mul_left _ _)
theorem PP.odd {l : List (Nat × Nat)} {n : Nat} (h : PP l) (hn : pprod l = n) (ho : n % 2 = 1) (hb : n ≤ 1000000000) : ∀ q ∈ l, Pr q.1 ∧ q.1 % 2 = 1 ∧ q.1 ≤ 1000000000 ∧ q.2 ≤ 1000000000 := by
  intro q hq
  have hd := dvd_pprod h hq
  rw [hn] at hd
  have hp := (h q hq).1
  refine ⟨hp, ?_, ?_, ?_⟩
  · rcases Nat.mod_two_eq_zero_or_one q.1 with h0 | h0
    · obtain ⟨c, hc⟩ := hd
      rw [hc, Nat.mul_mod, h0] at ho; simp at ho
    · exact h0
  · exact Nat.le_trans (Nat.le_of_dvd (by omega) hd) hb
  · have key : ∀ {l : List (Nat × Nat)}, PP l → q ∈ l → 2 ^ q.2 ≤ pprod l := by
      intro l
      induction l with
      | nil => intro _ h; simp at h
      | cons r l ih =>
        intro hp hq
        simp only [pprod]
        have hpl : 1 ≤ pprod l := Nat.le_trans Nat.one_le_two_pow (pprod_len (l := l) (fun r hr => hp r (by simp [hr])))
        have hr1 := (hp r (by simp)).1.1
        rcases List.mem_cons.1 hq with rfl | hq
        · have h1 : 2 ^ q.2 ≤ q.1 ^ q.2 := Nat.pow_le_pow_left hr1 _
          have h2 : q.1 ^ q.2 * 1 ≤ q.1 ^ q.2 * pprod l := Nat.mul_le_mul_left _ hpl
          omega
        · have h1 := ih (fun r hr => hp r (by simp [hr])) hq
          have h2 : 1 ≤ r.1 ^ r.2 := Nat.one_le_iff_ne_zero.2 (by have := Nat.pow_pos (n := r.2) (show 0 < r.1 by omega); omega)
          have h3 : 1 * pprod l ≤ r.1 ^ r.2 * pprod l := Nat.mul_le_mul_right _ h2
          omega
    have h1 := key h hq
    rw [hn] at h1
    have h2 : q.2 < 2 ^ q.2 := Nat.lt_two_pow_self
    omega
def JcRes (a n x e : Int) : Prop := (modB n = false ∧ x = 0 ∧ e = 2) ∨ (modB n = true ∧ n % 2 = 0 ∧ x = 0 ∧ e = 3) ∨ (modB n = true ∧ n % 2 = 1 ∧ x = jac a n.toNat ∧ e = 0)
def JcEnd (a n : Int) (e : Ending) : Prop := ∃ x l : Int, e = .returned (.tuple #[.int .i64 x, .int .i64 l]) ∧ JcRes a n x l
set_option maxHeartbeats 2000000 in
theorem rjac_ok (a : Int) (n : Nat) (w : World) (hm : modB (n : Int) = true) (ho : n % 2 = 1) :
    Calls Try.prog 61 #[.int .i64 a, .int .i64 n] w fun e w' => JcEnd a n e ∧ Below w.heap.size w w' := by
  obtain ⟨m1, m2⟩ := modB_of hm
  have t0 : ((n : Int) % 2 == 0) = false := by simp; omega
  have HO := Lib.hid ho
  clear ho
  go_enter Try.func61, Try.ntmps61
  go_wp2_with (first | (go_at_call 119; refine (isModR_any _ _).mono ?_; rintro e w' ⟨rfl, rfl⟩) | (go_at_call 80; fail))
  refine (fac80 n w (by omega) (by omega)).mono ?_
  rintro e w1 ⟨v, L, rfl, hpp, hpr, hlen, hown, hbel⟩
  have hodd := hpp.odd hpr HO.out (by omega)
  have hJ := (jac_jv a (l := L) (fun q hq => ⟨(hodd q hq).1, (hodd q hq).2.1⟩)).1
  rw [hpr] at hJ
  have HJ := Lib.hid hJ
  have HD := Lib.hid hodd
  have HW := Lib.hid hown
  have HB := Lib.hid hbel
  clear hpp hpr hJ hodd hbel
  rcases hown.2 with ⟨rfl, hz⟩ | ⟨g, cap, cur, rfl, hb, hg, hc1, hc2, -, -⟩
  · have hL : L = [] := List.eq_nil_of_length_eq_zero hz
    have HL := Lib.hid hL
    clear hL hz hown
    go_wp2
    refine wp_loop_rounds 1 ?_
    rw [rounds_succ]; go_wp2
    go_ret2
    exact ⟨⟨1, 0, rfl, .inr (.inr ⟨hm, by have := HO.out; omega, by rw [Int.toNat_natCast, HJ.out, HL.out]; rfl, rfl⟩)⟩, HB.out⟩
  · unfold maxLen at hc2
    have HC := Lib.hid (fun (i : Nat) (q : Nat × Nat) (h : L[i]? = some q) => (show w1.cell? ⟨g, i * 2, none⟩ = some (.int .i64 q.1) ∧ w1.cell? ⟨g, i * 2 + 1, none⟩ = some (.int .i64 q.2) by
      have hi : i < L.length := (List.getElem?_eq_some_iff.1 h).1
      have h2 := flat_get L i q h
      exact ⟨by rw [HW.out.cellAt (i * 2) (by omega)]; exact h2.1, by rw [HW.out.cellAt (i * 2 + 1) (by omega)]; exact h2.2⟩))
    clear hown hg
    go_wp2
    go_loop [6, 8, 9] (fun t6 t8 _ => ∃ (i : Nat) (o : Int), (i ≤ L.length ∧ Sgn o ∧ o * jv a (L.drop i) = jv a L) ∧ t6 = .int .i64 o ∧ t8 = .int .i64 i) (fun _ t8 _ => (L.length - (intOf t8).toNat))
    case atStart => exact ⟨0, 1, ⟨by omega, .inr (.inl rfl), by simp⟩, rfl, rfl⟩
    case round =>
      obtain ⟨i, o, ⟨hi, hs, he⟩, rfl, rfl⟩ := hrel
      have HE := Lib.hid he
      have HS := Lib.hid hs
      clear he hs
      by_cases hlt : i < L.length
      · obtain ⟨q, hq⟩ : ∃ q, L[i]? = some q := ⟨L[i], List.getElem?_eq_getElem hlt⟩
        obtain ⟨c0, c1⟩ := HC.out i q hq
        obtain ⟨d1, d2, d3, d4⟩ := HD.out q (List.mem_of_getElem? hq)
        have q3 : 3 ≤ q.1 := by have := d1.1; omega
        have hdr : L.drop i = q :: L.drop (i + 1) := by
          rw [List.drop_eq_getElem_cons hlt]; congr 1
          rw [List.getElem?_eq_getElem hlt] at hq; exact Option.some.inj hq
        have HDR := Lib.hid hdr
        obtain ⟨p, K⟩ := q
        simp only at c0 c1 d1 d2 d3 d4 q3
        clear hq d1 d2 hdr
        go_wp2
        go_loop [6, 9] (fun t6 t9 => ∃ (k : Nat) (o' : Int), (k ≤ K ∧ Sgn o' ∧ o' * leg a p ^ (K - k) * jv a (L.drop (i + 1)) = jv a L) ∧ t6 = .int .i64 o' ∧ t9 = .int .i64 k) (fun _ t9 => (K - (intOf t9).toNat))
        case atStart => exact ⟨0, o, ⟨by omega, HS.out, by have h := HE.out; rw [HDR.out] at h; simp only [jv] at h; rw [Nat.sub_zero, Int.mul_assoc]; exact h⟩, rfl, rfl⟩
        case round =>
          obtain ⟨k, o', ⟨hk, hs', he'⟩, rfl, rfl⟩ := hrel
          have HE' := Lib.hid he'
          have HS' := Lib.hid hs'
          clear he' hs'
          by_cases hkl : k < K
          · have hL1 := sgn_bd' (Nt.leg_sgn a p)
            have hL2 := sgn_bd' HS'.out
            have hL3 := sgn_bd' (HS'.out.mul (Nt.leg_sgn a p))
            obtain ⟨x1, x2⟩ := hL1
            obtain ⟨x3, x4⟩ := hL2
            obtain ⟨x5, x6⟩ := hL3
            go_wp2_with (go_at_call 131; refine (rleg_any _ _ _ q3 d3).mono ?_; rintro e w' ⟨rfl, rfl⟩)
            go_round
            case rel => exact ⟨k + 1, _, ⟨by omega, HS'.out.mul (Nt.leg_sgn a p), by
              have h := HE'.out
              have e1 : K - k = (K - (k + 1)) + 1 := by omega
              rw [e1, Int.pow_succ] at h
              rw [← h]; grind⟩, rfl, by go_num⟩
            case measure => simp [intOf]; omega
          · have hkk : k = K := by omega
            have HK := Lib.hid hkk
            clear hkk
            go_wp2
            go_round
            case rel => exact ⟨i + 1, o', ⟨by omega, HS'.out, by have h := HE'.out; rw [HK.out, Nat.sub_self, Int.pow_zero, Int.mul_one] at h; exact h⟩, rfl, by go_num⟩
            case measure => simp [intOf]; omega
      · have hii : i = L.length := by omega
        have HI := Lib.hid hii
        clear hii
        go_wp2
        go_ret2
        exact ⟨⟨o, 0, rfl, .inr (.inr ⟨hm, by have := HO.out; omega, by rw [Int.toNat_natCast, HJ.out, ← HE.out, HI.out]; simp [jv], rfl⟩)⟩, HB.out⟩
end Go.Proofs.Ytcbdnnboddahkaa
