/-
  WALKS: the roots of a unit modulo a power of an odd prime.
-/
import Derived.Test.YtcbdnnboddahkaaHe7
import Derived.Test.YtcbdnnboddahkaaHe2
namespace Go.Proofs.Ytcbdnnboddahkaa.He
open Nt
open Go.RowKit
set_option linter.unusedVariables false
set_option maxRecDepth 100000
/-- a list of roots that the call made -/
def RtOut (w : World) (u q : Int) (m : Nat) (e : Ending) (w' : World) : Prop := (∃ (v : Value) (zs : List Int), e = .returned v ∧ IsRts u q zs ∧ zs.length ≤ m ∧ w'.ownsRow w.heap.size 3 1 v zs.length (ivs zs)) ∧ Below w.heap.size w w'
theorem srt_length (zs : List Int) : (srt zs).length = zs.length := (List.mergeSort_perm zs _).length_eq
set_option maxHeartbeats 1000000 in
theorem uroots_any (u p : Int) (k : Nat) (w : World) (hp : Pr p.toNat) (h3 : 3 ≤ p) (hpm : p ≤ 1000000000) (hk : 1 ≤ k) (hq : p ^ k ≤ 1000000000) (h0 : 0 ≤ u) (h1 : u < p ^ k) (hu : ¬ p ∣ u) :
    Calls Try.prog 161 #[.int .i64 u, .int .i64 p, .int .i64 (p ^ k)] w fun e w' => RtOut w u (p ^ k) 2 e w' := by
  obtain ⟨n, rfl⟩ : ∃ n : Nat, p = n := ⟨p.toNat, by omega⟩
  have hp' : Pr n := by simpa using hp
  have ho : n % 2 = 1 := by
    rcases Nat.mod_two_eq_zero_or_one n with h | h
    · have := hp'.2 2 (Nat.dvd_of_mod_eq_zero h)
      omega
    · exact h
  have hpq : (n : Int) ∣ (n : Int) ^ k := p_dvd_pow hk
  by_cases hl : leg u n = 1
  · have HJ : Hid (Calls Try.prog 130 #[.int .i64 u, .int .i64 n] w fun e w' => e = .returned (.int .i64 1) ∧ w = w') := Lib.hid (by
      have h := jacobi_any u n w ho (by omega)
      rw [jac_prime _ hp' ho, hl] at h; exact h)
    have HM := Lib.hid (rmp_any u n w hp' ho (by omega) hl)
    have HLF : Hid (∀ x : Int, 0 ≤ x → x < n → (n : Int) ∣ x * x - u → Calls Try.prog 147 #[.int .i64 u, .int .i64 ((n : Int) ^ k), .int .i64 x] w fun e w' => (∃ X, LX n u x k X ∧ e = .returned (.int .i64 X)) ∧ w = w') := Lib.hid (fun x hx0 hx1 hx => by
      have hnx : ¬ (n : Int) ∣ x := fun hd => hu (by
        have := Int.dvd_sub (Int.dvd_mul_of_dvd_left (c := x) hd) hx
        have e : x * x - (x * x - u) = u := by omega
        rw [e] at this; exact this)
      have hle : (n : Int) ≤ (n : Int) ^ k := Int.le_of_dvd (by omega) hpq
      exact lift_any n u x x k w hp h3 hk hq h0 h1 hnx hx0 (by omega) hx (by rw [Int.sub_self]; exact Int.dvd_zero _))
    have HTW : Hid (∀ r : Int, 0 ≤ r → r < (n : Int) ^ k → (n : Int) ^ k ∣ r * r - u → IsRts u ((n : Int) ^ k) (srt [r, (n : Int) ^ k - r])) := Lib.hid (fun r => two_rts hp h3 hk hu)
    obtain ⟨q, hqq⟩ : ∃ q, (n : Int) ^ k = q := ⟨_, rfl⟩
    have HXQ : Hid (∀ x X, LX n u x k X → 0 ≤ X ∧ X < q ∧ q ∣ X * X - u) := Lib.hid (fun x X h => by rw [← hqq]; exact ⟨h.1, h.2.1, h.2.2.1⟩)
    rw [hqq] at hq h1 HLF HTW ⊢
    clear hl ho hp hp' hpq hqq hu
    go_enter Try.func161, Try.ntmps161
    go_wp2_with (first | (go_at_call 130; refine HJ.out.mono ?_; rintro e w2 ⟨rfl, rfl⟩) | (go_at_call 180; refine HM.out.mono ?_; rintro e w2 ⟨⟨x, hx0, hx1, hx, rfl⟩, rfl⟩; have HX := Lib.hid hx; clear hx) | (go_at_call 147; refine (HLF.out _ hx0 hx1 HX.out).mono ?_; rintro e w2 ⟨⟨X, hX, rfl⟩, rfl⟩; have HXX := Lib.hid (HXQ.out _ _ hX); obtain ⟨hX0, hX1, _⟩ := HXX.out; clear hX)  | (go_at_call 139; fail))
    have hRT := Lib.hid (HTW.out X hX0 hX1 HXX.out.2.2)
    have hown0 := World.ownsRow_lit (base := w.heap.size) (size := 1) (e := 3) w #[Value.int IntKind.i64 X, Value.int IntKind.i64 (q - X)] 2 (Nat.le_refl _) (by unfold maxLen; omega) rfl
    have hB0 : Below w.heap.size w (w.alloc (Obj.cells #[Value.int IntKind.i64 X, Value.int IntKind.i64 (q - X)] 3)) := (Below.refl _ _).alloc (Nat.le_refl _) _
    have HB0 := Lib.hid hB0
    refine (sort_own w.heap.size 2 _ [X, q - X] _ hown0 (by simp)).mono ?_
    rintro e w2 ⟨rfl, hown, hgr⟩
    have HO := Lib.hid hown
    have HB1 : Hid (Below w.heap.size w w2) := Lib.hid (HB0.out.grown hgr (by simp) (fun j hj => by simp [Value.ownBlock] at hj; omega))
    clear hown hgr hown0 hB0
    go_wp2
    go_ret
    exact ⟨⟨_, _, rfl, hRT.out, by rw [srt_length]; exact Nat.le_refl _, by rw [srt_length]; exact HO.out⟩, HB1.out⟩
  · have HJ : Hid (Calls Try.prog 130 #[.int .i64 u, .int .i64 n] w fun e w' => e = .returned (.int .i64 (leg u n)) ∧ w = w') := Lib.hid (by
      have h := jacobi_any u n w ho (by omega)
      rw [jac_prime _ hp' ho] at h; exact h)
    have HN := Lib.hid (none_rts (q := (n : Int) ^ k) hp h3 hpq hu (by simpa using hl))
    have hlb : ((leg u n : Int) != 1) = true := by rw [bne_iff_ne]; exact hl
    have hb : -1 ≤ leg u n ∧ leg u n ≤ 1 := by rcases leg_sgn u n with h | h | h <;> omega
    obtain ⟨hb1, hb2⟩ := hb
    clear hl ho hp hp' hpq hu
    generalize (n : Int) ^ k = q at *
    generalize leg u n = lz at *
    go_enter Try.func161, Try.ntmps161
    go_wp2_with (go_at_call 130; refine HJ.out.mono ?_; rintro e w2 ⟨rfl, rfl⟩)
    go_ret
    exact ⟨⟨_, [], rfl, HN.out, by simp, by simpa [ivs] using World.ownsRow_nil _ _ _ _⟩, Below.refl _ _⟩
end Go.Proofs.Ytcbdnnboddahkaa.He
