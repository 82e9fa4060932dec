/-
  WALKS: Valuation, Legendre and Jacobi of both packages against one relation each.
-/
import Derived.Test.YtcbdnnboddahkaaRJac
import Derived.Test.YtcbdnnboddahkaaHil2
namespace Go.Proofs.Ytcbdnnboddahkaa
open Go.RowKit
set_option linter.unusedVariables false
set_option maxRecDepth 100000
open Nt (Pr leg Sgn jac)
set_option maxHeartbeats 1000000 in
theorem jc60 (a n : Int) (w : World) : Calls Try.prog 60 #[.int .i64 a, .int .i64 n] w fun e w' => JcEnd a n e ∧ w = w' := by
  rcases hm : modB n with _ | _
  · go_enter Try.func60, Try.ntmps60
    go_wp2_with (go_at_call 118; refine (isMod_any _ _).mono ?_; rintro e w' ⟨rfl, rfl⟩)
    go_ret2
    exact ⟨⟨0, 2, rfl, .inl ⟨hm, rfl, rfl⟩⟩, rfl⟩
  obtain ⟨m1, m2⟩ := modB_of hm
  by_cases ho : n % 2 = 0
  · have t0 : (n % 2 == 0) = true := by rw [ho]; rfl
    have HO := Lib.hid ho
    clear ho
    go_enter Try.func60, Try.ntmps60
    go_wp2_with (go_at_call 118; refine (isMod_any _ _).mono ?_; rintro e w' ⟨rfl, rfl⟩)
    go_ret2
    exact ⟨⟨0, 3, rfl, .inr (.inl ⟨hm, HO.out, rfl, rfl⟩)⟩, rfl⟩
  · have t0 : (n % 2 == 0) = false := by simp; omega
    obtain ⟨k, rfl⟩ : ∃ k : Nat, n = k := ⟨n.toNat, by omega⟩
    have HO := Lib.hid (show k % 2 = 1 by omega)
    clear ho
    go_enter Try.func60, Try.ntmps60
    go_wp2_with (first | (go_at_call 118; refine (isMod_any _ _).mono ?_; rintro e w' ⟨rfl, rfl⟩) | (go_at_call 130; refine (jacobi_any _ _ _ HO.out (by omega)).mono ?_; rintro e w' ⟨rfl, rfl⟩))
    go_ret2
    exact ⟨⟨_, 0, rfl, .inr (.inr ⟨hm, by have := HO.out; omega, by rw [Int.toNat_natCast], rfl⟩)⟩, rfl⟩
set_option maxHeartbeats 1000000 in
theorem jc61 (a n : Int) (w : World) : Calls Try.prog 61 #[.int .i64 a, .int .i64 n] w fun e w' => JcEnd a n e ∧ Below w.heap.size w w' := by
  rcases hm : modB n with _ | _
  · go_enter Try.func61, Try.ntmps61
    go_wp2_with (go_at_call 119; refine (isModR_any _ _).mono ?_; rintro e w' ⟨rfl, rfl⟩)
    go_ret2
    exact ⟨⟨0, 2, rfl, .inl ⟨hm, rfl, rfl⟩⟩, Below.refl _ _⟩
  obtain ⟨m1, m2⟩ := modB_of hm
  by_cases ho : n % 2 = 0
  · have t0 : (n % 2 == 0) = true := by rw [ho]; rfl
    have HO := Lib.hid ho
    clear ho
    go_enter Try.func61, Try.ntmps61
    go_wp2_with (go_at_call 119; refine (isModR_any _ _).mono ?_; rintro e w' ⟨rfl, rfl⟩)
    go_ret2
    exact ⟨⟨0, 3, rfl, .inr (.inl ⟨hm, HO.out, rfl, rfl⟩)⟩, Below.refl _ _⟩
  · obtain ⟨k, rfl⟩ : ∃ k : Nat, n = k := ⟨n.toNat, by omega⟩
    exact rjac_ok a k w hm (by omega)
theorem JcRes.unique {a n x e x' e' : Int} (h : JcRes a n x e) (h' : JcRes a n x' e') : x = x' ∧ e = e' := by
  rcases h with ⟨h1, rfl, rfl⟩ | ⟨h1, h2, rfl, rfl⟩ | ⟨h1, h2, rfl, rfl⟩ <;> rcases h' with ⟨k1, rfl, rfl⟩ | ⟨k1, k2, rfl, rfl⟩ | ⟨k1, k2, rfl, rfl⟩
  all_goals first
    | exact ⟨rfl, rfl⟩
    | (rw [h1] at k1; cases k1; done)
    | omega
/-! Valuation -/
def VlRes (n p v e : Int) : Prop := (prB p = false ∧ v = 0 ∧ e = 11) ∨ (prB p = true ∧ n = 0 ∧ v = 0 ∧ e = 10) ∨ (prB p = true ∧ n ≠ 0 ∧ e = 0 ∧ ∃ (u : Int) (s : Nat), Val n p u s ∧ v = s)
theorem VlRes.unique {n p v e v' e' : Int} (h : VlRes n p v e) (h' : VlRes n p v' e') : v = v' ∧ e = e' := by
  rcases h with ⟨h1, rfl, rfl⟩ | ⟨h1, h2, rfl, rfl⟩ | ⟨h1, h2, rfl, u, s, h3, rfl⟩ <;> rcases h' with ⟨k1, rfl, rfl⟩ | ⟨k1, k2, rfl, rfl⟩ | ⟨k1, k2, rfl, u', s', k3, rfl⟩
  all_goals first
    | exact ⟨rfl, rfl⟩
    | (rw [h1] at k1; cases k1; done)
    | exact absurd h2 k2
    | exact absurd k2 h2
    | (obtain ⟨-, rfl⟩ := h3.unique (prB_of h1).1 k3; exact ⟨rfl, rfl⟩)
def VlEnd (n p : Int) (e : Ending) : Prop := ∃ v l : Int, e = .returned (.tuple #[.int .i64 v, .int .i64 l]) ∧ VlRes n p v l
set_option maxHeartbeats 1000000 in
theorem vl56 (n p : Int) (w : World) (h1 : -9223372036854775808 ≤ n) (h2 : n ≤ 9223372036854775807) : Calls Try.prog 56 #[.int .i64 n, .int .i64 p] w fun e w' => VlEnd n p e ∧ w = w' := by
  rcases hp : prB p with _ | _
  · go_enter Try.func56, Try.ntmps56
    go_wp2_with (go_at_call 71; refine (isPrime_any _ _).mono ?_; rintro e w' ⟨rfl, rfl⟩)
    go_ret2
    exact ⟨⟨0, 11, rfl, .inl ⟨hp, rfl, rfl⟩⟩, rfl⟩
  obtain ⟨c1, c2, -⟩ := prB_of hp
  by_cases hn : n = 0
  · have t0 : (n == 0) = true := by rw [hn]; rfl
    have HN := Lib.hid hn
    clear hn
    go_enter Try.func56, Try.ntmps56
    go_wp2_with (go_at_call 71; refine (isPrime_any _ _).mono ?_; rintro e w' ⟨rfl, rfl⟩)
    go_ret2
    exact ⟨⟨0, 10, rfl, .inr (.inl ⟨hp, HN.out, rfl, rfl⟩)⟩, rfl⟩
  · have t0 : (n == 0) = false := by simp [hn]
    have HN := Lib.hid hn
    clear hn
    go_enter Try.func56, Try.ntmps56
    go_wp2_with (first | (go_at_call 71; refine (isPrime_any _ _).mono ?_; rintro e w' ⟨rfl, rfl⟩) | (go_at_call 128; refine (strip_any _ _ _ HN.out c1 h1 h2 (by omega)).mono ?_; rintro e w' ⟨⟨r, k, rfl, hr, hd⟩, rfl⟩; replace hr := Lib.hid hr; replace hd := Lib.hid hd))
    go_ret2
    exact ⟨⟨_, 0, rfl, .inr (.inr ⟨hp, HN.out, rfl, r, k, ⟨hr.out.1, hd.out⟩, rfl⟩)⟩, rfl⟩
set_option maxHeartbeats 1000000 in
theorem vl57 (n p : Int) (w : World) (h1 : -9223372036854775808 ≤ n) (h2 : n ≤ 9223372036854775807) : Calls Try.prog 57 #[.int .i64 n, .int .i64 p] w fun e w' => VlEnd n p e ∧ w = w' := by
  rcases hp : prB p with _ | _
  · go_enter Try.func57, Try.ntmps57
    go_wp2_with (go_at_call 72; refine (risPrime_any _ _).mono ?_; rintro e w' ⟨rfl, rfl⟩)
    go_ret2
    exact ⟨⟨0, 11, rfl, .inl ⟨hp, rfl, rfl⟩⟩, rfl⟩
  obtain ⟨c1, c2, -⟩ := prB_of hp
  by_cases hn : n = 0
  · have t0 : (n == 0) = true := by rw [hn]; rfl
    have HN := Lib.hid hn
    clear hn
    go_enter Try.func57, Try.ntmps57
    go_wp2_with (go_at_call 72; refine (risPrime_any _ _).mono ?_; rintro e w' ⟨rfl, rfl⟩)
    go_ret2
    exact ⟨⟨0, 10, rfl, .inr (.inl ⟨hp, HN.out, rfl, rfl⟩)⟩, rfl⟩
  · have t0 : (n == 0) = false := by simp [hn]
    have HN := Lib.hid hn
    clear hn
    go_enter Try.func57, Try.ntmps57
    go_wp2_with (go_at_call 72; refine (risPrime_any _ _).mono ?_; rintro e w' ⟨rfl, rfl⟩)
    go_loop [0, 6] (fun t0 t6 => ∃ (r : Int) (k : Nat), StRel n p r k ∧ t0 = .int .i64 r ∧ t6 = .int .i64 k) (fun t0 _ => (intOf t0).natAbs)
    case atStart => exact ⟨n, 0, ⟨by simp, HN.out, by omega, Iff.rfl⟩, rfl, rfl⟩
    case round =>
      obtain ⟨r, k, hrel, rfl, rfl⟩ := hrel
      have hb := hrel.2.2.1
      have hsg := hrel.2.2.2
      have hr0 := hrel.2.1
      have b1 : -9223372036854775808 ≤ r := by omega
      have b2 : r ≤ 9223372036854775807 := by omega
      have HR := Lib.hid hrel
      clear hrel
      by_cases hd : r.tmod p = 0
      · have hst := HR.out.step c1 hd
        have ht : (r.tmod p == 0) = true := by rw [hd]; rfl
        have b3 : (k : Int) < 9223372036854775807 := by
          have := hst.1.2.1; have := hst.2; omega
        have hmm : r.natAbs.div p.natAbs < r.natAbs := by have := hst.2; rw [Int.natAbs_tdiv] at this; exact this
        have HM := Lib.hid hmm
        have HS := Lib.hid hst
        clear hst hd hsg hr0 hb hmm
        go_wp2
        go_round
        case rel => exact ⟨_, k + 1, HS.out.1, rfl, by go_num⟩
        case measure => simp [intOf]; exact HM.out
      · have ht : (r.tmod p == 0) = false := by simp [hd]
        have HD := Lib.hid hd
        clear hd hsg hr0 hb
        go_wp2
        go_ret2
        exact ⟨⟨k, 0, rfl, .inr (.inr ⟨hp, HN.out, rfl, r, k, ⟨HR.out.1, fun hdv => HD.out (Int.tmod_eq_zero_of_dvd hdv)⟩, rfl⟩)⟩, rfl⟩
/-! Legendre -/
def LgRes (a p x e : Int) : Prop := ((prB p = false ∨ p = 2) ∧ x = 0 ∧ e = 11) ∨ (prB p = true ∧ p ≠ 2 ∧ x = leg a p.toNat ∧ e = 0)
theorem LgRes.unique {a p x e x' e' : Int} (h : LgRes a p x e) (h' : LgRes a p x' e') : x = x' ∧ e = e' := by
  rcases h with ⟨h1, rfl, rfl⟩ | ⟨h1, h2, rfl, rfl⟩ <;> rcases h' with ⟨k1, rfl, rfl⟩ | ⟨k1, k2, rfl, rfl⟩
  · exact ⟨rfl, rfl⟩
  · rcases h1 with h1 | h1
    · rw [h1] at k1; cases k1
    · exact absurd h1 k2
  · rcases k1 with k1 | k1
    · rw [k1] at h1; cases h1
    · exact absurd k1 h2
  · exact ⟨rfl, rfl⟩
def LgEnd (a p : Int) (e : Ending) : Prop := ∃ x l : Int, e = .returned (.tuple #[.int .i64 x, .int .i64 l]) ∧ LgRes a p x l
set_option maxHeartbeats 1000000 in
theorem iop_f (p : Int) (w : World) (h : prB p = false ∨ p = 2) : Calls Try.prog 129 #[.int .i64 p] w fun e w' => e = .returned (.bool false) ∧ w = w' := by
  by_cases h2 : p = 2
  · have t : (p != 2) = false := by rw [h2]; rfl
    clear h h2
    go_enter Try.func129, Try.ntmps129
    go_wp2_with (go_at_call 71; refine (isPrime_any _ _).mono ?_; rintro e w' ⟨rfl, rfl⟩)
    go_ret
    exact ⟨rfl, rfl⟩
  · have t : (p != 2) = true := by rw [bne_iff_ne]; exact h2
    have hp : prB p = false := by
      rcases h with h | h
      · exact h
      · exact absurd h h2
    clear h h2
    go_enter Try.func129, Try.ntmps129
    go_wp2_with (go_at_call 71; refine (isPrime_any _ _).mono ?_; rintro e w' ⟨rfl, rfl⟩)
    go_ret
    exact ⟨rfl, rfl⟩
set_option maxHeartbeats 1000000 in
theorem iop_t (p : Int) (w : World) (hp : prB p = true) (h2 : p ≠ 2) : Calls Try.prog 129 #[.int .i64 p] w fun e w' => e = .returned (.bool true) ∧ w = w' := by
  have t : (p != 2) = true := by rw [bne_iff_ne]; exact h2
  clear h2
  go_enter Try.func129, Try.ntmps129
  go_wp2_with (go_at_call 71; refine (isPrime_any _ _).mono ?_; rintro e w' ⟨rfl, rfl⟩)
  go_ret
  exact ⟨rfl, rfl⟩
set_option maxHeartbeats 1000000 in
theorem lg58 (a p : Int) (w : World) : Calls Try.prog 58 #[.int .i64 a, .int .i64 p] w fun e w' => LgEnd a p e ∧ w = w' := by
  by_cases h : prB p = false ∨ p = 2
  · have HH := Lib.hid h
    clear h
    go_enter Try.func58, Try.ntmps58
    go_wp2_with (go_at_call 129; refine (iop_f _ _ HH.out).mono ?_; rintro e w' ⟨rfl, rfl⟩)
    go_ret2
    exact ⟨⟨0, 11, rfl, .inl ⟨HH.out, rfl, rfl⟩⟩, rfl⟩
  · have hp : prB p = true := by
      rcases hp : prB p with _ | _
      · exact absurd (.inl hp) h
      · rfl
    have h2 : p ≠ 2 := fun e => h (.inr e)
    obtain ⟨c1, c2, c3⟩ := prB_of hp
    obtain ⟨k, rfl⟩ : ∃ k : Nat, p = k := ⟨p.toNat, by omega⟩
    rw [Int.toNat_natCast] at c3
    have ko : k % 2 = 1 := pr_odd c3 (fun h => h2 (by omega))
    have C3 := Lib.hid c3
    have KO := Lib.hid ko
    have H2 := Lib.hid h2
    have HP := Lib.hid hp
    clear c3 ko h2 h hp
    go_enter Try.func58, Try.ntmps58
    go_wp2_with (first | (go_at_call 129; refine (iop_t _ _ HP.out H2.out).mono ?_; rintro e w' ⟨rfl, rfl⟩) | (go_at_call 130; refine (jleg_any _ _ _ C3.out KO.out (by omega)).mono ?_; rintro e w' ⟨rfl, rfl⟩))
    go_ret2
    exact ⟨⟨_, 0, rfl, .inr ⟨HP.out, H2.out, by rw [Int.toNat_natCast], rfl⟩⟩, rfl⟩
set_option maxHeartbeats 1000000 in
theorem lg59 (a p : Int) (w : World) : Calls Try.prog 59 #[.int .i64 a, .int .i64 p] w fun e w' => LgEnd a p e ∧ w = w' := by
  rcases hp : prB p with _ | _
  · go_enter Try.func59, Try.ntmps59
    go_wp2_with (go_at_call 72; refine (risPrime_any _ _).mono ?_; rintro e w' ⟨rfl, rfl⟩)
    go_ret2
    exact ⟨⟨0, 11, rfl, .inl ⟨.inl hp, rfl, rfl⟩⟩, rfl⟩
  by_cases h2 : p = 2
  · have t : (p == 2) = true := by rw [h2]; rfl
    have H2 := Lib.hid h2
    clear h2
    go_enter Try.func59, Try.ntmps59
    go_wp2_with (go_at_call 72; refine (risPrime_any _ _).mono ?_; rintro e w' ⟨rfl, rfl⟩)
    go_ret2
    exact ⟨⟨0, 11, rfl, .inl ⟨.inr H2.out, rfl, rfl⟩⟩, rfl⟩
  · have t : (p == 2) = false := by simp [h2]
    obtain ⟨c1, c2, c3⟩ := prB_of hp
    obtain ⟨k, rfl⟩ : ∃ k : Nat, p = k := ⟨p.toNat, by omega⟩
    have k3 : 3 ≤ k := by omega
    have H2 := Lib.hid h2
    clear c3 h2
    go_enter Try.func59, Try.ntmps59
    go_wp2_with (first | (go_at_call 72; refine (risPrime_any _ _).mono ?_; rintro e w' ⟨rfl, rfl⟩) | (go_at_call 131; refine (rleg_any _ _ _ k3 (by omega)).mono ?_; rintro e w' ⟨rfl, rfl⟩))
    go_ret2
    exact ⟨⟨_, 0, rfl, .inr ⟨hp, H2.out, by rw [Int.toNat_natCast], rfl⟩⟩, rfl⟩
end Go.Proofs.Ytcbdnnboddahkaa
